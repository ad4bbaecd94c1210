/- Splits, merges, and the map of what plans make. -/
import Derived.Test.YtgblnlpfgdbnnaaGreatZ26
namespace Go.Proofs.YtgblnlpfgdbnnaaGreat
set_option maxRecDepth 100000
open Go.ChangeShapes Go.WideShapes Go.ChangeAt Go.RowKit

theorem Kg.odAdd {w u u' : World} {F : Nat → Prop} {own ro : List Th} (h : Kg w F own ro u) {v : Value} {l : List Dr} (ho : OD u v l u') : Kg w F (Th.og 114 5 v l.length (dcs l) :: own) ro u' :=
  h.add (t := Th.og 114 5 v l.length (dcs l)) ho.bel (row_base ho.own fun _ _ => Nat.zero_le _) (fun _k hk => (row_lt ho.own hk).2)
theorem Kg.od {w u : World} {own ro : List Th} {v : Value} {l : List Dr} (h : Kg w (fun _ => False) own ro u) (i : Nat) (hi : own[i]? = some (Th.og 114 5 v l.length (dcs l))) : OD w v l u :=
  ⟨h.mf.bel, row_base (h.ogAt i hi) fun k hk => (h.cov _ (List.mem_of_getElem? hi) k hk).resolve_left id⟩
set_option maxHeartbeats 4000000 in
theorem mg6p_any (p : Pl) (s : Sp) (qp qs qf : Nat) (w : World) (hp : w.rangeAt qp 0 p.cells) (hs : w.rangeAt qs 0 s.cells) (hf : w.cell? ⟨qf, 0, none⟩ = some (.func (.func 113) #[] #[.pointer (some ⟨qp, 0, none⟩)])) (h d e ov : Int) (w0 : IntKind.i64.wrap (s.hi - p.a) = h) (w1 : IntKind.i64.wrap (s.v - h) = d) (hov : ov = d) (hd : decide (0 < d) = true) (w3 : IntKind.i64.wrap (s.v - ov) = e) :
    Calls Tryz.prog 118 #[.pointer (some ⟨qs, 0, none⟩), .pointer (some ⟨qp, 0, none⟩), .pointer (some ⟨qf, 0, none⟩)] w fun e' u => ∃ v, e' = .returned v ∧ OD w v [⟨p.nm, 1, e, s.lo, h⟩, ⟨p.ot, 1, ov, 0, p.a⟩] u := by
  have HP := Lib.hid (show ∀ j v, p.cells[j]? = some v → w.cell? ⟨qp, j, none⟩ = some v from fun j v h => by have := hp j v h; rwa [Nat.zero_add] at this)
  have HS1 := Lib.hid (show ∀ j v, s.cells[j]? = some v → w.cell? ⟨qs, j, none⟩ = some v from fun j v h => by have := hs j v h; rwa [Nat.zero_add] at this); clear hs
  have HQ := Lib.hid hf; clear hf
  have HK := Lib.hid (Kg.start w)
  have HPR := Lib.hid hp; clear hp
  have HW3 := Lib.hid w3; clear w3
  obtain ⟨hd1, hd2⟩ : (0 < d) ∧ ¬ (d < 0) := by simp at hd; omega
  subst hov
  have hmx : max (0 : Int) ov = ov := by omega
  go_enter Tryz.func118, Tryz.ntmps118
  go_wp2_with (first
    | (with_reducible refine load_kt ckI _ rfl ((HK.out.mf.bel.cell (cell_lt (HS1.out 0 _ Sp.c0))).trans (HS1.out 0 _ Sp.c0)) rfl rfl ?_)
    | (with_reducible refine load_kt ckI _ rfl ((HK.out.mf.bel.cell (cell_lt (HS1.out 1 _ Sp.c1))).trans (HS1.out 1 _ Sp.c1)) rfl rfl ?_)
    | (with_reducible refine load_kt ckI _ rfl ((HK.out.mf.bel.cell (cell_lt (HS1.out 2 _ Sp.c2))).trans (HS1.out 2 _ Sp.c2)) rfl rfl ?_)
    | (with_reducible refine load_kt ckI _ rfl ((HK.out.mf.bel.cell (cell_lt (HP.out 3 _ Pl.c3))).trans (HP.out 3 _ Pl.c3)) rfl rfl ?_)
    | (with_reducible refine load_kt ckS _ rfl ((HK.out.mf.bel.cell (cell_lt (HP.out 2 _ Pl.c2))).trans (HP.out 2 _ Pl.c2)) rfl rfl ?_)
    | (with_reducible refine build_sp rfl _ _ _ rfl rfl rfl rfl ?_)
    | (with_reducible refine build_dr rfl _ _ _ rfl rfl rfl rfl ?_)
    | ((with_reducible refine alloc_k HK.out dr_zero rfl rfl ?_); intro b6 u hk; clear HK; have HK := Lib.hid hk; clear hk)
    | ((with_reducible refine store_kr HK.out 0 dr_info Dr.one rfl rfl _ _ rfl rfl rfl rfl Dr.le Dr.put ?_); intro u hk; simp only [List.set_cons_zero] at hk; clear HK; have HK := Lib.hid hk; clear hk))
  refine Draws.start (S := fun u => Kg w (fun _ => False) [Th.cel b6 114 (Dr.cells ⟨p.ot, 1, ov, 0, p.a⟩)] [] u) (n := 13) 13 rfl (by kernel_rfl) ?_
  have HS := Lib.hid (show (fun u => Kg w (fun _ => False) [Th.cel b6 114 (Dr.cells ⟨p.ot, 1, ov, 0, p.a⟩)] [] u) (World.drew _) from HK.out.drew)
  refine Draws.take 0 HS.out rfl (by kernel_rfl) (fun _ _ _ h => h) (yield_k ckM (fun _ h => (h.mf.bel.cell (cell_lt HQ.out)).trans HQ.out) _ rfl rfl rfl) ?_
  (try simp only [Act.put, lsA, lsB, lsC])
  refine Draws.take 1 (v := ?v1) HS.out rfl (by kernel_rfl) (fun _ _ _ h => h) (Or.inl ⟨rfl, ?h1⟩) ?r1
  case h1 => intro w' hw'; go_simp; (try with_reducible rfl)
  (try simp only [Act.put, lsA, lsB, lsC])
  refine Draws.take 2 HS.out rfl (by kernel_rfl) (fun _ _ _ h => h) (yield_k ckI (fun _ h => (h.mf.bel.cell (cell_lt (HS1.out 0 _ Sp.c0))).trans (HS1.out 0 _ Sp.c0)) _ rfl rfl rfl) ?_
  (try simp only [Act.put, lsA, lsB, lsC])
  refine Draws.take 3 (v := ?v2) HS.out rfl (by kernel_rfl) (fun _ _ _ h => h) (Or.inl ⟨rfl, ?h2⟩) ?r2
  case h2 => intro w' hw'; go_simp; (try with_reducible rfl)
  (try simp only [Act.put, lsA, lsB, lsC])
  refine Draws.take 4 HS.out rfl (by kernel_rfl) (fun _ _ _ h => h) (yield_sub HW3.out _ _ _ rfl rfl rfl rfl) ?_
  (try simp only [Act.put, lsA, lsB, lsC])
  refine Draws.take 5 (v := ?v3) HS.out rfl (by kernel_rfl) (fun _ _ _ h => h) (Or.inl ⟨rfl, ?h3⟩) ?r3
  case h3 => intro w' hw'; go_simp; (try with_reducible rfl)
  (try simp only [Act.put, lsA, lsB, lsC])
  refine Draws.take 6 HS.out rfl (by kernel_rfl) (fun _ _ _ h => h) (yield_k ckI (fun _ h => (h.mf.bel.cell (cell_lt (HS1.out 1 _ Sp.c1))).trans (HS1.out 1 _ Sp.c1)) _ rfl rfl rfl) ?_
  (try simp only [Act.put, lsA, lsB, lsC])
  refine Draws.take 7 (v := ?v4) HS.out rfl (by kernel_rfl) (fun _ _ _ h => h) (Or.inl ⟨rfl, ?h4⟩) ?r4
  case h4 => intro w' hw'; go_simp; (try with_reducible rfl)
  (try simp only [Act.put, lsA, lsB, lsC])
  refine Draws.take 9 HS.out rfl (by kernel_rfl) (fun _ _ _ h => h) (yield_kr Tryz.underlying114 rfl dr_info (fun _ h => (h.celAt 0 rfl).range Dr.all) _ rfl rfl rfl) ?_
  (try simp only [Act.put, lsA, lsB, lsC])
  refine Draws.either 8 10 rfl rfl (by kernel_rfl) rfl rfl (fun K' hK => ?_) (fun K' hK => ?_)
  · go_simp
    go_at_call 113
    refine (mg1_any p _ _ _ qp _ (rng_below HPR.out HS.out.mf.bel)).mono ?_
    rintro e u ⟨g, rfl, ho⟩
    (try dsimp only)
    have hk := Kg.odAdd HS.out ho; clear ho
    clear HK; have HK := Lib.hid hk; clear hk
    clear HS; have HS := Lib.hid (show (fun u => Kg w (fun _ => False) [Th.cel b6 114 (Dr.cells ⟨p.ot, 1, ov, 0, p.a⟩)] [] u) _ from HK.out.tail)
    refine hK.out _ _ (fun _ => HS.out) ?_
    clear hK K'
    (try simp only [Act.put, lsA, lsB, lsC])
    refine Draws.does 10 rfl (by kernel_rfl) rfl (fun K' hK => ?_)
    refine wp_buildDr HK.out _ rfl rfl ?_
    intro bs u hk
    clear HK; have HK := Lib.hid hk; clear hk
    clear HS; have HS := Lib.hid (show (fun u => Kg w (fun _ => False) [Th.cel b6 114 (Dr.cells ⟨p.ot, 1, ov, 0, p.a⟩)] [] u) _ from HK.out.tail.tail)
    refine hK.out _ _ (fun _ => HS.out) ?_
    clear hK K'
    (try simp only [Act.put, lsA, lsB, lsC])
    refine Draws.does 11 rfl (by kernel_rfl) rfl (fun K' hK => ?_)
    refine wp_push HK.out 1 0 dr_info3 rfl (by decide) (by decide) Tryz.underlying106 (st := 106) (t := 114) rfl rfl Dr.len Dr.ones _ _ rfl rfl rfl (by simp) ?_
    intro v u hk
    simp only [List.set_cons_zero, List.set_cons_succ] at hk; clear HK; have HK := Lib.hid hk; clear hk
    clear HS; have HS := Lib.hid (show (fun u => Kg w (fun _ => False) [Th.cel b6 114 (Dr.cells ⟨p.ot, 1, ov, 0, p.a⟩)] [] u) _ from HK.out.tail.tail)
    refine hK.out _ _ (fun _ => HS.out) ?_
    clear hK K'
    (try simp only [Act.put, lsA, lsB, lsC])
    refine Draws.take 12 (v := ?v5) HS.out rfl (by kernel_rfl) (fun _ _ _ h => h) (Or.inl ⟨rfl, ?h5⟩) ?r5
    case h5 => intro w' hw'; go_simp; (try with_reducible rfl)
    (try simp only [Act.put, lsA, lsB, lsC])
    refine Draws.done (by kernel_rfl) ?_
    clear HS
    go_wp2
    go_ret
    exact ⟨_, rfl, HK.out.od 1 (by simp [dcs])⟩
  · refine wp_buildDr HS.out _ rfl rfl ?_
    intro bs u hk
    clear HK; have HK := Lib.hid hk; clear hk
    clear HS; have HS := Lib.hid (show (fun u => Kg w (fun _ => False) [Th.cel b6 114 (Dr.cells ⟨p.ot, 1, ov, 0, p.a⟩)] [] u) _ from HK.out.tail)
    refine hK.out _ _ (fun _ => HS.out) ?_
    clear hK K'
    (try simp only [Act.put, lsA, lsB, lsC])
    refine Draws.does 8 rfl (by kernel_rfl) rfl (fun K' hK => ?_)
    go_simp
    go_at_call 113
    refine (mg1_any p _ _ _ qp _ (rng_below HPR.out HS.out.mf.bel)).mono ?_
    rintro e u ⟨g, rfl, ho⟩
    (try dsimp only)
    have hk := HK.out.odAdd ho; clear ho
    clear HK; have HK := Lib.hid hk; clear hk
    clear HS; have HS := Lib.hid (show (fun u => Kg w (fun _ => False) [Th.cel b6 114 (Dr.cells ⟨p.ot, 1, ov, 0, p.a⟩)] [] u) _ from HK.out.tail.tail)
    refine hK.out _ _ (fun _ => HS.out) ?_
    clear hK K'
    (try simp only [Act.put, lsA, lsB, lsC])
    refine Draws.does 11 rfl (by kernel_rfl) rfl (fun K' hK => ?_)
    refine wp_push HK.out 0 1 dr_info3 rfl (by decide) (by decide) Tryz.underlying106 (st := 106) (t := 114) rfl rfl Dr.len Dr.ones _ _ rfl rfl rfl (by simp) ?_
    intro v u hk
    simp only [List.set_cons_zero] at hk; clear HK; have HK := Lib.hid hk; clear hk
    clear HS; have HS := Lib.hid (show (fun u => Kg w (fun _ => False) [Th.cel b6 114 (Dr.cells ⟨p.ot, 1, ov, 0, p.a⟩)] [] u) _ from HK.out.tail.tail)
    refine hK.out _ _ (fun _ => HS.out) ?_
    clear hK K'
    (try simp only [Act.put, lsA, lsB, lsC])
    refine Draws.take 12 (v := ?v6) HS.out rfl (by kernel_rfl) (fun _ _ _ h => h) (Or.inl ⟨rfl, ?h6⟩) ?r6
    case h6 => intro w' hw'; go_simp; (try with_reducible rfl)
    (try simp only [Act.put, lsA, lsB, lsC])
    refine Draws.done (by kernel_rfl) ?_
    clear HS
    go_wp2
    go_ret
    exact ⟨_, rfl, HK.out.od 0 (by simp [dcs])⟩
set_option maxHeartbeats 4000000 in
theorem mg6n_any (p : Pl) (s : Sp) (qp qs qf : Nat) (w : World) (hp : w.rangeAt qp 0 p.cells) (hs : w.rangeAt qs 0 s.cells) (hf : w.cell? ⟨qf, 0, none⟩ = some (.func (.func 113) #[] #[.pointer (some ⟨qp, 0, none⟩)])) (h d e ov : Int) (w0 : IntKind.i64.wrap (s.hi - p.a) = h) (w1 : IntKind.i64.wrap (s.v - h) = d) (hov : ov = 0) (hd : decide (0 < d) = false) (w3 : IntKind.i64.wrap (s.v - ov) = e) :
    Calls Tryz.prog 118 #[.pointer (some ⟨qs, 0, none⟩), .pointer (some ⟨qp, 0, none⟩), .pointer (some ⟨qf, 0, none⟩)] w fun e' u => ∃ v, e' = .returned v ∧ OD w v [⟨p.nm, 1, e, s.lo, h⟩, ⟨p.ot, 1, ov, 0, p.a⟩] u := by
  have HP := Lib.hid (show ∀ j v, p.cells[j]? = some v → w.cell? ⟨qp, j, none⟩ = some v from fun j v h => by have := hp j v h; rwa [Nat.zero_add] at this)
  have HS1 := Lib.hid (show ∀ j v, s.cells[j]? = some v → w.cell? ⟨qs, j, none⟩ = some v from fun j v h => by have := hs j v h; rwa [Nat.zero_add] at this); clear hs
  have HQ := Lib.hid hf; clear hf
  have HK := Lib.hid (Kg.start w)
  have HPR := Lib.hid hp; clear hp
  have HW3 := Lib.hid w3; clear w3
  have hd1 : ¬ (0 < d) := by simpa using hd
  subst hov
  have hmx : max (0 : Int) d = 0 := by omega
  go_enter Tryz.func118, Tryz.ntmps118
  go_wp2_with (first
    | (with_reducible refine load_kt ckI _ rfl ((HK.out.mf.bel.cell (cell_lt (HS1.out 0 _ Sp.c0))).trans (HS1.out 0 _ Sp.c0)) rfl rfl ?_)
    | (with_reducible refine load_kt ckI _ rfl ((HK.out.mf.bel.cell (cell_lt (HS1.out 1 _ Sp.c1))).trans (HS1.out 1 _ Sp.c1)) rfl rfl ?_)
    | (with_reducible refine load_kt ckI _ rfl ((HK.out.mf.bel.cell (cell_lt (HS1.out 2 _ Sp.c2))).trans (HS1.out 2 _ Sp.c2)) rfl rfl ?_)
    | (with_reducible refine load_kt ckI _ rfl ((HK.out.mf.bel.cell (cell_lt (HP.out 3 _ Pl.c3))).trans (HP.out 3 _ Pl.c3)) rfl rfl ?_)
    | (with_reducible refine load_kt ckS _ rfl ((HK.out.mf.bel.cell (cell_lt (HP.out 2 _ Pl.c2))).trans (HP.out 2 _ Pl.c2)) rfl rfl ?_)
    | (with_reducible refine build_sp rfl _ _ _ rfl rfl rfl rfl ?_)
    | (with_reducible refine build_dr rfl _ _ _ rfl rfl rfl rfl ?_)
    | ((with_reducible refine alloc_k HK.out dr_zero rfl rfl ?_); intro b6 u hk; clear HK; have HK := Lib.hid hk; clear hk)
    | ((with_reducible refine store_kr HK.out 0 dr_info Dr.one rfl rfl _ _ rfl rfl rfl rfl Dr.le Dr.put ?_); intro u hk; simp only [List.set_cons_zero] at hk; clear HK; have HK := Lib.hid hk; clear hk))
  refine Draws.start (S := fun u => Kg w (fun _ => False) [Th.cel b6 114 (Dr.cells ⟨p.ot, 1, 0, 0, p.a⟩)] [] u) (n := 13) 13 rfl (by kernel_rfl) ?_
  have HS := Lib.hid (show (fun u => Kg w (fun _ => False) [Th.cel b6 114 (Dr.cells ⟨p.ot, 1, 0, 0, p.a⟩)] [] u) (World.drew _) from HK.out.drew)
  refine Draws.take 0 HS.out rfl (by kernel_rfl) (fun _ _ _ h => h) (yield_k ckM (fun _ h => (h.mf.bel.cell (cell_lt HQ.out)).trans HQ.out) _ rfl rfl rfl) ?_
  (try simp only [Act.put, lsA, lsB, lsC])
  refine Draws.take 1 (v := ?v7) HS.out rfl (by kernel_rfl) (fun _ _ _ h => h) (Or.inl ⟨rfl, ?h7⟩) ?r7
  case h7 => intro w' hw'; go_simp; (try with_reducible rfl)
  (try simp only [Act.put, lsA, lsB, lsC])
  refine Draws.take 2 HS.out rfl (by kernel_rfl) (fun _ _ _ h => h) (yield_k ckI (fun _ h => (h.mf.bel.cell (cell_lt (HS1.out 0 _ Sp.c0))).trans (HS1.out 0 _ Sp.c0)) _ rfl rfl rfl) ?_
  (try simp only [Act.put, lsA, lsB, lsC])
  refine Draws.take 3 (v := ?v8) HS.out rfl (by kernel_rfl) (fun _ _ _ h => h) (Or.inl ⟨rfl, ?h8⟩) ?r8
  case h8 => intro w' hw'; go_simp; (try with_reducible rfl)
  (try simp only [Act.put, lsA, lsB, lsC])
  refine Draws.take 4 HS.out rfl (by kernel_rfl) (fun _ _ _ h => h) (yield_sub HW3.out _ _ _ rfl rfl rfl rfl) ?_
  (try simp only [Act.put, lsA, lsB, lsC])
  refine Draws.take 5 (v := ?v9) HS.out rfl (by kernel_rfl) (fun _ _ _ h => h) (Or.inl ⟨rfl, ?h9⟩) ?r9
  case h9 => intro w' hw'; go_simp; (try with_reducible rfl)
  (try simp only [Act.put, lsA, lsB, lsC])
  refine Draws.take 6 HS.out rfl (by kernel_rfl) (fun _ _ _ h => h) (yield_k ckI (fun _ h => (h.mf.bel.cell (cell_lt (HS1.out 1 _ Sp.c1))).trans (HS1.out 1 _ Sp.c1)) _ rfl rfl rfl) ?_
  (try simp only [Act.put, lsA, lsB, lsC])
  refine Draws.take 7 (v := ?v10) HS.out rfl (by kernel_rfl) (fun _ _ _ h => h) (Or.inl ⟨rfl, ?h10⟩) ?r10
  case h10 => intro w' hw'; go_simp; (try with_reducible rfl)
  (try simp only [Act.put, lsA, lsB, lsC])
  refine Draws.take 9 HS.out rfl (by kernel_rfl) (fun _ _ _ h => h) (yield_kr Tryz.underlying114 rfl dr_info (fun _ h => (h.celAt 0 rfl).range Dr.all) _ rfl rfl rfl) ?_
  (try simp only [Act.put, lsA, lsB, lsC])
  refine Draws.either 8 10 rfl rfl (by kernel_rfl) rfl rfl (fun K' hK => ?_) (fun K' hK => ?_)
  · go_simp
    go_at_call 113
    refine (mg1_any p _ _ _ qp _ (rng_below HPR.out HS.out.mf.bel)).mono ?_
    rintro e u ⟨g, rfl, ho⟩
    (try dsimp only)
    have hk := Kg.odAdd HS.out ho; clear ho
    clear HK; have HK := Lib.hid hk; clear hk
    clear HS; have HS := Lib.hid (show (fun u => Kg w (fun _ => False) [Th.cel b6 114 (Dr.cells ⟨p.ot, 1, 0, 0, p.a⟩)] [] u) _ from HK.out.tail)
    refine hK.out _ _ (fun _ => HS.out) ?_
    clear hK K'
    (try simp only [Act.put, lsA, lsB, lsC])
    refine Draws.does 10 rfl (by kernel_rfl) rfl (fun K' hK => ?_)
    refine wp_buildDr HK.out _ rfl rfl ?_
    intro bs u hk
    clear HK; have HK := Lib.hid hk; clear hk
    clear HS; have HS := Lib.hid (show (fun u => Kg w (fun _ => False) [Th.cel b6 114 (Dr.cells ⟨p.ot, 1, 0, 0, p.a⟩)] [] u) _ from HK.out.tail.tail)
    refine hK.out _ _ (fun _ => HS.out) ?_
    clear hK K'
    (try simp only [Act.put, lsA, lsB, lsC])
    refine Draws.does 11 rfl (by kernel_rfl) rfl (fun K' hK => ?_)
    refine wp_push HK.out 1 0 dr_info3 rfl (by decide) (by decide) Tryz.underlying106 (st := 106) (t := 114) rfl rfl Dr.len Dr.ones _ _ rfl rfl rfl (by simp) ?_
    intro v u hk
    simp only [List.set_cons_zero, List.set_cons_succ] at hk; clear HK; have HK := Lib.hid hk; clear hk
    clear HS; have HS := Lib.hid (show (fun u => Kg w (fun _ => False) [Th.cel b6 114 (Dr.cells ⟨p.ot, 1, 0, 0, p.a⟩)] [] u) _ from HK.out.tail.tail)
    refine hK.out _ _ (fun _ => HS.out) ?_
    clear hK K'
    (try simp only [Act.put, lsA, lsB, lsC])
    refine Draws.take 12 (v := ?v11) HS.out rfl (by kernel_rfl) (fun _ _ _ h => h) (Or.inl ⟨rfl, ?h11⟩) ?r11
    case h11 => intro w' hw'; go_simp; (try with_reducible rfl)
    (try simp only [Act.put, lsA, lsB, lsC])
    refine Draws.done (by kernel_rfl) ?_
    clear HS
    go_wp2
    go_ret
    exact ⟨_, rfl, HK.out.od 1 (by simp [dcs])⟩
  · refine wp_buildDr HS.out _ rfl rfl ?_
    intro bs u hk
    clear HK; have HK := Lib.hid hk; clear hk
    clear HS; have HS := Lib.hid (show (fun u => Kg w (fun _ => False) [Th.cel b6 114 (Dr.cells ⟨p.ot, 1, 0, 0, p.a⟩)] [] u) _ from HK.out.tail)
    refine hK.out _ _ (fun _ => HS.out) ?_
    clear hK K'
    (try simp only [Act.put, lsA, lsB, lsC])
    refine Draws.does 8 rfl (by kernel_rfl) rfl (fun K' hK => ?_)
    go_simp
    go_at_call 113
    refine (mg1_any p _ _ _ qp _ (rng_below HPR.out HS.out.mf.bel)).mono ?_
    rintro e u ⟨g, rfl, ho⟩
    (try dsimp only)
    have hk := HK.out.odAdd ho; clear ho
    clear HK; have HK := Lib.hid hk; clear hk
    clear HS; have HS := Lib.hid (show (fun u => Kg w (fun _ => False) [Th.cel b6 114 (Dr.cells ⟨p.ot, 1, 0, 0, p.a⟩)] [] u) _ from HK.out.tail.tail)
    refine hK.out _ _ (fun _ => HS.out) ?_
    clear hK K'
    (try simp only [Act.put, lsA, lsB, lsC])
    refine Draws.does 11 rfl (by kernel_rfl) rfl (fun K' hK => ?_)
    refine wp_push HK.out 0 1 dr_info3 rfl (by decide) (by decide) Tryz.underlying106 (st := 106) (t := 114) rfl rfl Dr.len Dr.ones _ _ rfl rfl rfl (by simp) ?_
    intro v u hk
    simp only [List.set_cons_zero] at hk; clear HK; have HK := Lib.hid hk; clear hk
    clear HS; have HS := Lib.hid (show (fun u => Kg w (fun _ => False) [Th.cel b6 114 (Dr.cells ⟨p.ot, 1, 0, 0, p.a⟩)] [] u) _ from HK.out.tail.tail)
    refine hK.out _ _ (fun _ => HS.out) ?_
    clear hK K'
    (try simp only [Act.put, lsA, lsB, lsC])
    refine Draws.take 12 (v := ?v12) HS.out rfl (by kernel_rfl) (fun _ _ _ h => h) (Or.inl ⟨rfl, ?h12⟩) ?r12
    case h12 => intro w' hw'; go_simp; (try with_reducible rfl)
    (try simp only [Act.put, lsA, lsB, lsC])
    refine Draws.done (by kernel_rfl) ?_
    clear HS
    go_wp2
    go_ret
    exact ⟨_, rfl, HK.out.od 0 (by simp [dcs])⟩
def addS (a b : Sp) : Sp := ⟨a.v + b.v, a.lo + b.lo, a.hi + b.hi⟩
def sumS (l : List Sp) : Sp := l.foldl addS ⟨0, 0, 0⟩
theorem sumS_take {l : List Sp} {m : Nat} {s : Sp} (h : l[m]? = some s) : sumS (l.take (m + 1)) = addS (sumS (l.take m)) s := by
  unfold sumS
  rw [List.take_add_one, h, Option.toList_some, List.foldl_append]; rfl
def bdS (s : Sp) (B : Int) : Prop := (-B ≤ s.v ∧ s.v ≤ B) ∧ (-B ≤ s.lo ∧ s.lo ≤ B) ∧ (-B ≤ s.hi ∧ s.hi ≤ B)
theorem sumS_bd {l : List Sp} (hb : ∀ s ∈ l, bdS s 1099511627776) : ∀ m, m ≤ l.length → bdS (sumS (l.take m)) (1099511627776 * m)
  | 0, _ => by simp [sumS, bdS]
  | m + 1, hm => by
    have ih := sumS_bd hb m (by omega)
    have hx : l[m]? = some l[m] := List.getElem?_eq_getElem (by omega)
    have h1 := hb _ (List.mem_of_getElem? hx)
    rw [sumS_take hx]
    unfold bdS addS at *
    simp only
    omega
theorem wrap_bd {z : Int} (h : -4398046511104 ≤ z ∧ z ≤ 4398046511104) : IntKind.i64.wrap z = z := by
  simp [IntKind.wrap, IntKind.bits, IntKind.signed]; omega
theorem Sp.set0 {a b c x : Int} : (Sp.cells ⟨a, b, c⟩).set 0 (.int .i64 x) = Sp.cells ⟨x, b, c⟩ := rfl
theorem Sp.set1 {a b c x : Int} : (Sp.cells ⟨a, b, c⟩).set 1 (.int .i64 x) = Sp.cells ⟨a, x, c⟩ := rfl
theorem Sp.set2 {a b c x : Int} : (Sp.cells ⟨a, b, c⟩).set 2 (.int .i64 x) = Sp.cells ⟨a, b, x⟩ := rfl
theorem Sp.lt {s : Sp} {i : Nat} (h : i < 3) : i < s.cells.length := h
set_option maxHeartbeats 4000000 in
theorem mg7_any (p : Pl) (qp qo qf : Nat) (A : Option Addr) (n c : Nat) (l : List Sp) (w : World) (hn : n ≤ 4) (hp : w.rangeAt qp 0 p.cells) (hd : SR w A n l) (ho : w.cell? ⟨qo, 0, none⟩ = some (.slice A n c)) (hf : w.cell? ⟨qf, 0, none⟩ = some (.func (.func 113) #[] #[.pointer (some ⟨qp, 0, none⟩)])) (hb : ∀ s ∈ l, bdS s 1099511627776) :
    Calls Tryz.prog 119 #[.pointer (some ⟨qo, 0, none⟩), .pointer (some ⟨qf, 0, none⟩)] w fun e u => ∃ v, e = .returned v ∧ OD w v [⟨p.nm, 1, (sumS l).v, (sumS l).lo, (sumS l).hi⟩] u := by
  have HO := Lib.hid ho; clear ho
  have HQ := Lib.hid hf; clear hf
  have HK := Lib.hid (Kg.start w)
  have HPR := Lib.hid hp; clear hp
  have HD := Lib.hid hd; clear hd
  have HSB := Lib.hid (sumS_bd hb)
  have HB := Lib.hid hb; clear hb
  go_enter Tryz.func119, Tryz.ntmps119
  go_wp2_with (first
    | (with_reducible refine load_kt ckN _ rfl ((HK.out.mf.bel.cell (cell_lt HO.out)).trans HO.out) rfl rfl ?_)
    | (with_reducible refine load_kt ckM _ rfl ((HK.out.mf.bel.cell (cell_lt HQ.out)).trans HQ.out) rfl rfl ?_)
    | (with_reducible refine build_sp0 rfl rfl ?_)
    | ((with_reducible refine alloc_k HK.out sp_zero rfl rfl ?_); intro b3 u hk; clear HK; have HK := Lib.hid hk; clear hk)
    | ((with_reducible refine store_kr HK.out 0 sp_info Sp.one rfl rfl _ _ rfl rfl rfl rfl Sp.le Sp.put ?_); intro u hk; simp only [List.set_cons_zero] at hk; clear HK; have HK := Lib.hid hk; clear hk))
  go_loopw [9] (fun i wr => ∃ m : Nat, m ≤ n ∧ i = .int .i64 m ∧ Kg w (fun _ => False) [Th.cel b3 112 (sumS (l.take m)).cells] [] wr) (fun i _ => n - (intOf i).toNat)
  case atStart => exact ⟨0, by omega, rfl, HK.out⟩
  case round =>
    obtain ⟨m, hm, rfl, hk⟩ := hrel
    clear HK; have HK := Lib.hid hk; clear hk
    by_cases hlt : m < n
    · obtain ⟨s, hx⟩ := HD.out.get hlt
      obtain ⟨b, off, rfl, hr⟩ := HD.out.base (by omega)
      have HM := Lib.hid hlt
      have HX := Lib.hid hx
      have HR := Lib.hid (hr m s hx)
      have i1 : (0 : Int) ≤ (m : Int) := by omega
      have i2 : (m : Int) < (n : Int) := by omega
      have h1 := HSB.out m (by rw [HD.out.1]; omega)
      have h2 := HB.out s (List.mem_of_getElem? hx)
      have HT := Lib.hid (sumS_take hx)
      obtain ⟨t, ht⟩ : ∃ t, sumS (l.take m) = t := ⟨_, rfl⟩
      rw [ht] at h1
      have hk := HK.out
      rw [ht] at hk
      clear HK; have HK := Lib.hid hk; clear hk
      have hm4 : (m : Int) ≤ 3 := by omega
      have w0 : IntKind.i64.wrap (t.v + s.v) = t.v + s.v := wrap_bd (by unfold bdS at h1 h2; omega)
      have w1 : IntKind.i64.wrap (t.lo + s.lo) = t.lo + s.lo := wrap_bd (by unfold bdS at h1 h2; omega)
      have w2 : IntKind.i64.wrap (t.hi + s.hi) = t.hi + s.hi := wrap_bd (by unfold bdS at h1 h2; omega)
      have HTT := Lib.hid ht
      clear hr hx h1 h2 ht hm4
      obtain ⟨tv, tl, th⟩ := t
      simp only at w0 w1 w2
      have T0 := True.intro; have T1 := True.intro; have T2 := True.intro
      go_wp2_with (first
        | (with_reducible refine load_kg Tryz.underlying112 rfl sp_info _ rfl (rng_below HR.out HK.out.mf.bel) rfl rfl ?_)
        | ((with_reducible refine alloc_k HK.out sp_zero rfl rfl ?_); intro b5 u hk; clear HK; have HK := Lib.hid hk; clear hk)
        | ((with_reducible refine store_kr HK.out 0 sp_info Sp.one rfl rfl _ _ rfl rfl rfl rfl Sp.le Sp.put ?_); intro u hk; simp only [List.set_cons_zero] at hk; clear HK; have HK := Lib.hid hk; clear hk)
        | (with_reducible refine load_k1 HK.out 1 ckI _ rfl rfl rfl rfl Sp.c0 ?_)
        | (with_reducible refine load_k1 HK.out 1 ckI _ rfl rfl rfl rfl Sp.c1 ?_)
        | (with_reducible refine load_k1 HK.out 1 ckI _ rfl rfl rfl rfl Sp.c2 ?_)
        | (with_reducible refine load_k1 HK.out 0 ckI _ rfl rfl rfl rfl Sp.c0 ?_)
        | (with_reducible refine load_k1 HK.out 0 ckI _ rfl rfl rfl rfl Sp.c1 ?_)
        | (with_reducible refine load_k1 HK.out 0 ckI _ rfl rfl rfl rfl Sp.c2 ?_)
        | (clear T0; (refine store_k1 HK.out 1 ckI rfl rfl _ _ rfl rfl rfl rfl rfl (Sp.lt (by decide)) Sp.set0 ?_); intro u hk; simp only [List.set_cons_zero, List.set_cons_succ] at hk; clear HK; have HK := Lib.hid hk; clear hk)
        | (clear T1; (refine store_k1 HK.out 1 ckI rfl rfl _ _ rfl rfl rfl rfl rfl (Sp.lt (by decide)) Sp.set1 ?_); intro u hk; simp only [List.set_cons_zero, List.set_cons_succ] at hk; clear HK; have HK := Lib.hid hk; clear hk)
        | (clear T2; (refine store_k1 HK.out 1 ckI rfl rfl _ _ rfl rfl rfl rfl rfl (Sp.lt (by decide)) Sp.set2 ?_); intro u hk; simp only [List.set_cons_zero, List.set_cons_succ] at hk; clear HK; have HK := Lib.hid hk; clear hk))
      go_roundw
      case rel => exact ⟨m + 1, by have := HM.out; omega, by go_num, by rw [HT.out, HTT.out]; exact HK.out.tail⟩
      case measure => have := HM.out; simp [intOf]; omega
    · obtain rfl : m = n := by omega
      have hk := HK.out
      rw [show l.take m = l by rw [← HD.out.1]; exact List.take_length] at hk
      clear HK; have HK := Lib.hid hk; clear hk
      obtain ⟨t, ht⟩ : ∃ t, sumS l = t := ⟨_, rfl⟩
      have hk := HK.out
      rw [ht] at hk
      clear HK; have HK := Lib.hid hk; clear hk
      have HTE := Lib.hid ht; clear ht
      go_wp2_with (first
        | (with_reducible refine load_kt ckM _ rfl ((HK.out.mf.bel.cell (cell_lt HQ.out)).trans HQ.out) rfl rfl ?_)
        | (with_reducible refine load_k1 HK.out 0 ckI _ rfl rfl rfl rfl Sp.c0 ?_)
        | (with_reducible refine load_k1 HK.out 0 ckI _ rfl rfl rfl rfl Sp.c1 ?_)
        | (with_reducible refine load_k1 HK.out 0 ckI _ rfl rfl rfl rfl Sp.c2 ?_)
        | (go_at_call 113; (with_reducible refine (mg1_any p _ _ _ qp _ (rng_below HPR.out HK.out.mf.bel)).mono ?_); rintro e u ⟨g, rfl, ho⟩; have hk := HK.out.odAdd ho; clear ho; clear HK; have HK := Lib.hid hk; clear hk))
      go_ret
      exact ⟨_, rfl, by rw [HTE.out]; exact HK.out.od 0 rfl⟩
def mtab (qp qs qo qf : Nat) (k : Int) : Option Value := if k = 1 then some (.func (.func 114) #[] #[.pointer (some ⟨qf, 0, none⟩), .pointer (some ⟨qs, 0, none⟩), .pointer (some ⟨qp, 0, none⟩)]) else if k = 2 then some (.func (.func 115) #[] #[.pointer (some ⟨qf, 0, none⟩), .pointer (some ⟨qs, 0, none⟩), .pointer (some ⟨qp, 0, none⟩)]) else if k = 3 then some (.func (.func 116) #[] #[.pointer (some ⟨qp, 0, none⟩), .pointer (some ⟨qs, 0, none⟩)]) else if k = 4 then some (.func (.func 117) #[] #[.pointer (some ⟨qf, 0, none⟩), .pointer (some ⟨qs, 0, none⟩), .pointer (some ⟨qp, 0, none⟩)]) else if k = 5 then some (.func (.func 118) #[] #[.pointer (some ⟨qs, 0, none⟩), .pointer (some ⟨qp, 0, none⟩), .pointer (some ⟨qf, 0, none⟩)]) else if k = 6 then some (.func (.func 119) #[] #[.pointer (some ⟨qo, 0, none⟩), .pointer (some ⟨qf, 0, none⟩)]) else none
/-- What makings made. -/
structure MM (w : World) (p : Pl) (A : Option Addr) (n c : Nat) (s : Sp) (b qp qs qo qf : Nat) (u : World) : Prop where
  bel : Below w.heap.size w u
  map : FM u b 6 (mtab qp qs qo qf)
  hp : u.rangeAt qp 0 p.cells
  hs : u.rangeAt qs 0 s.cells
  ho : u.cell? ⟨qo, 0, none⟩ = some (.slice A n c)
  hf : u.cell? ⟨qf, 0, none⟩ = some (.func (.func 113) #[] #[.pointer (some ⟨qp, 0, none⟩)])
theorem fnM_zero : (Tryz.prog.info? 136).bind (·.zero) = some .nilFunc := by kernel_rfl
set_option maxHeartbeats 4000000 in
theorem makings_any (p : Pl) (A : Option Addr) (n c : Nat) (l : List Sp) (s : Sp) (w : World) (hn : 0 < n ∧ n ≤ 4) (hd : SR w A n l) (h0 : l[0]? = some s) :
    Calls Tryz.prog 85 #[.agg p.cells.toArray, .slice A n c] w fun e u => ∃ b qp qs qo qf, e = .returned (.map (some b)) ∧ MM w p A n c s b qp qs qo qf u := by
  have hmf : ∀ (fn : Fn) (first cap : Array Value) (w : World), (Instr.makeFunc fn first cap).run Tryz.prog w = .ok (.func fn first cap) w := fun _ _ _ _ => rfl
  obtain ⟨b0, off, rfl, hr⟩ := hd.base (by omega)
  have HR := Lib.hid (show w.rangeAt b0 off s.cells by have := hr 0 s h0; rwa [Nat.zero_mul, Nat.add_zero] at this)
  have i2 : (0 : Int) < (n : Int) := by omega
  have HK := Lib.hid (Kg.start w)
  clear hr hd h0 hn
  go_enter Tryz.func85, Tryz.ntmps85
  go_wp2_with (first
    | ((with_reducible refine box_k (cs := p.cells) HK.out rfl _ rfl rfl ?_); intro qp u hk; clear HK; have HK := Lib.hid hk; clear hk)
    | ((with_reducible refine box_ks HK.out rfl _ rfl rfl ?_); intro qo u hk; clear HK; have HK := Lib.hid hk; clear hk)
    | (with_reducible refine load_k1 HK.out 0 ckN _ rfl rfl rfl rfl rfl ?_)
    | (with_reducible refine load_kg Tryz.underlying112 rfl sp_info _ rfl (rng_below HR.out HK.out.mf.bel) rfl rfl ?_)
    | ((with_reducible refine alloc_k HK.out sp_zero rfl rfl ?_); intro qs u hk; clear HK; have HK := Lib.hid hk; clear hk)
    | ((with_reducible refine store_kr HK.out 0 sp_info Sp.one rfl rfl _ _ rfl rfl rfl rfl Sp.le Sp.put ?_); intro u hk; simp only [List.set_cons_zero] at hk; clear HK; have HK := Lib.hid hk; clear hk)
    | ((with_reducible refine alloc_kf HK.out fnM_zero rfl rfl ?_); intro qf u hk; clear HK; have HK := Lib.hid hk; clear hk)
    | ((with_reducible refine store_kf HK.out 0 (.inr rfl) rfl rfl _ _ rfl rfl rfl rfl ?_); intro u hk; simp only [List.set_cons_zero] at hk; clear HK; have HK := Lib.hid hk; clear hk)
    | ((with_reducible refine make_fmM HK.out rfl rfl ?_); intro b u hk; clear HK; have HK := Lib.hid hk; clear hk)
    | ((with_reducible refine put_fmM HK.out 0 rfl (by decide) rfl rfl _ _ _ rfl (by decide) rfl rfl rfl ?_); intro u hk; simp only [List.set_cons_zero] at hk; clear HK; have HK := Lib.hid hk; clear hk))
  go_ret
  exact ⟨b, qp, qs, qo, qf, rfl, HK.out.mf.bel, (HK.out.fm 0 rfl).as fun k => (by
    unfold mtab
    by_cases h1 : k = 1
    · subst h1; rfl
    · by_cases h2 : k = 2
      · subst h2; rfl
      · by_cases h3 : k = 3
        · subst h3; rfl
        · by_cases h4 : k = 4
          · subst h4; rfl
          · by_cases h5 : k = 5
            · subst h5; rfl
            · by_cases h6 : k = 6
              · subst h6; rfl
              · simp [h1, h2, h3, h4, h5, h6]), (HK.out.celAt 4 rfl).range Pl.all, (HK.out.celAt 2 rfl).range Sp.all, (HK.out.celAt 3 rfl).cell rfl, (HK.out.celAt 1 rfl).cell rfl⟩
/-! ### What a plan makes. -/
def draftsP (p : Pl) (l : List Sp) : List Dr :=
  let s := l.getD 0 ⟨0, 0, 0⟩
  if p.k = 1 then [⟨p.nm, 1, s.v, s.lo + p.a, s.hi - p.b⟩]
  else if p.k = 2 then [⟨p.nm, 1, s.v, s.lo - p.a, s.hi + p.b⟩]
  else if p.k = 3 then [⟨p.nm, 2, s.v, 0, 0⟩]
  else if p.k = 4 then [⟨p.nm, 1, s.v, p.a, p.b⟩]
  else if p.k = 5 then [⟨p.nm, 1, s.v - max 0 (s.v - (s.hi - p.a)), s.lo, s.hi - p.a⟩, ⟨p.ot, 1, max 0 (s.v - (s.hi - p.a)), 0, p.a⟩]
  else [⟨p.nm, 1, (sumS l).v, (sumS l).lo, (sumS l).hi⟩]
theorem mk_ent (p : Pl) (hk : 1 ≤ p.k ∧ p.k ≤ 6) (ha : isB p.a = true) (hb : isB p.b = true) {A : Option Addr} {n c : Nat} {l : List Sp} {s : Sp} {w : World} (hn : n ≤ 4) (hd : SR w A n l) (h0 : l[0]? = some s) (hB : ∀ s ∈ l, bdS s 1099511627776) {b qp qs qo qf : Nat} {u : World} (hm : MM w p A n c s b qp qs qo qf u) :
    ∃ kf cap, mtab qp qs qo qf p.k = some (.func (.func kf) #[] cap) ∧ (∀ args w, (callFunc kf args).run Tryz.prog w = .ok (.enter kf args) w) ∧ Calls Tryz.prog kf cap u fun e u' => ∃ v, e = .returned v ∧ OD u v (draftsP p l) u' := by
  have hs := hB s (List.mem_of_getElem? h0)
  have hl : l.getD 0 ⟨0, 0, 0⟩ = s := by rw [List.getD, h0]; rfl
  obtain ⟨a1, a2⟩ := isB_iff.1 ha
  obtain ⟨b1, b2⟩ := isB_iff.1 hb
  unfold bdS at hs
  have : p.k = 1 ∨ p.k = 2 ∨ p.k = 3 ∨ p.k = 4 ∨ p.k = 5 ∨ p.k = 6 := by omega
  rcases this with e | e | e | e | e | e
  · refine ⟨114, _, by rw [e]; rfl, enters_of Tryz.func114 (by kernel_rfl) rfl, ?_⟩
    rw [show draftsP p l = [⟨p.nm, 1, s.v, s.lo + p.a, s.hi - p.b⟩] by simp only [draftsP, hl, e]; rfl]
    exact mg2_any p s qp qs qf u hm.hp hm.hs hm.hf (wrap_bd (by omega)) (wrap_bd (by omega))
  · refine ⟨115, _, by rw [e]; rfl, enters_of Tryz.func115 (by kernel_rfl) rfl, ?_⟩
    rw [show draftsP p l = [⟨p.nm, 1, s.v, s.lo - p.a, s.hi + p.b⟩] by simp only [draftsP, hl, e]; rfl]
    exact mg3_any p s qp qs qf u hm.hp hm.hs hm.hf (wrap_bd (by omega)) (wrap_bd (by omega))
  · refine ⟨116, _, by rw [e]; rfl, enters_of Tryz.func116 (by kernel_rfl) rfl, ?_⟩
    rw [show draftsP p l = [⟨p.nm, 2, s.v, 0, 0⟩] by simp only [draftsP, hl, e]; rfl]
    exact mg4_any p s qp qs qf u hm.hp hm.hs hm.hf
  · refine ⟨117, _, by rw [e]; rfl, enters_of Tryz.func117 (by kernel_rfl) rfl, ?_⟩
    rw [show draftsP p l = [⟨p.nm, 1, s.v, p.a, p.b⟩] by simp only [draftsP, hl, e]; rfl]
    exact mg5_any p s qp qs qf u hm.hp hm.hs hm.hf
  · refine ⟨118, _, by rw [e]; rfl, enters_of Tryz.func118 (by kernel_rfl) rfl, ?_⟩
    rw [show draftsP p l = [⟨p.nm, 1, s.v - max 0 (s.v - (s.hi - p.a)), s.lo, s.hi - p.a⟩, ⟨p.ot, 1, max 0 (s.v - (s.hi - p.a)), 0, p.a⟩] by simp only [draftsP, hl, e]; rfl]
    by_cases h : 0 < s.v - (s.hi - p.a)
    · rw [show max 0 (s.v - (s.hi - p.a)) = s.v - (s.hi - p.a) by omega]
      exact mg6p_any p s qp qs qf u hm.hp hm.hs hm.hf _ (s.v - (s.hi - p.a)) _ _ (wrap_bd (by omega)) (wrap_bd (by omega)) rfl (decide_eq_true h) (wrap_bd (by omega))
    · rw [show max 0 (s.v - (s.hi - p.a)) = 0 by omega]
      exact mg6n_any p s qp qs qf u hm.hp hm.hs hm.hf _ (s.v - (s.hi - p.a)) _ _ (wrap_bd (by omega)) (wrap_bd (by omega)) rfl (decide_eq_false h) (wrap_bd (by omega))
  · refine ⟨119, _, by rw [e]; rfl, enters_of Tryz.func119 (by kernel_rfl) rfl, ?_⟩
    rw [show draftsP p l = [⟨p.nm, 1, (sumS l).v, (sumS l).lo, (sumS l).hi⟩] by simp only [draftsP, hl, e]; rfl]
    exact mg7_any p qp qo qf A n c l u hn hm.hp (hd.below hm.bel) hm.ho hm.hf hB

end Go.Proofs.YtgblnlpfgdbnnaaGreat
