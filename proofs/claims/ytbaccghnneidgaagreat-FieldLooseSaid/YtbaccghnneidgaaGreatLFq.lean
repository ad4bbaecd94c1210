/- Contract of field.Join of fields of one head; sixteen fields in memory; contract of the statements' Step. -/
import Derived.Test.YtbaccghnneidgaaGreatLFhk
import Derived.Test.YtbaccghnneidgaaGreatLFx
namespace Go.Proofs.YtbaccghnneidgaaGreat
set_option maxRecDepth 100000
open Go.ChangeShapes Go.WideShapes Go.ChangeAt Go.RowKit

section
variable {ops : Array Oper} {S : World → Prop} {o : Oper} {a : Act}
theorem yield_neqv {ty : TypeId} {xs : List Value} (hge : Tryz.prog.eqGuardType Tryz.prog.depth ty = false) (hq : ∀ W, (Op.equalIn 10000 ty (.agg xs.toArray) (.agg xs.toArray)).run Tryz.prog W = .ok true W) (x y : Operand) (t : TypeId) (ho : o.op = .binOp .neq ty x y t) (hx : a.eval x = .agg xs.toArray) (hy : a.eval y = .agg xs.toArray) (hw : Region.wanted o (yielded ops a.tmps) = true) :
    YieldsIf Tryz.prog ops S o (.bool false) a :=
  .inl ⟨hw, fun w _ => by
    unfold execOp
    simp only [ho, hx, hy]
    simp [go_sem, hq, hge]⟩
theorem yield_rng {ty : TypeId} {d : TypeDesc} (hu : Tryz.prog.underlying ty = some d) (hd : d.isRow = true) {xs : List Value} (hs : (Tryz.prog.info? ty).map (·.size) = some xs.length) {b off : Nat} (hr : ∀ u, S u → u.rangeAt b off xs)
    (x : Operand) (ho : o.op = .load ty x) (hx : a.eval x = .pointer (some ⟨b, off, none⟩)) (hw : Region.wanted o (yielded ops a.tmps) = true) : YieldsIf Tryz.prog ops S o (.agg xs.toArray) a :=
  yieldsIf_load_mid hw ty x ho b off hx xs d hr hu hd hs
end
theorem join_sl (A B : Option Addr) (na ca nb cb : Nat) (xa xb : List Ho) (w : World) (hda : Row w A na xa) (hdb : Row w B nb xb) :
    Calls Tryz.prog 118 #[.slice A na ca, .slice B nb cb] w fun e w' => ∃ A1 c1, e = .returned (.tuple #[.slice A1 (joinLH xa xb).length c1, .int .i64 (joinE xa xb)]) ∧ Own w' w.heap.size (.slice A1 (joinLH xa xb).length c1) (joinLH xa xb) ∧ Below w.heap.size w w' :=
  (join_anyH A B na ca nb cb xa xb w hda hdb).mono fun e w' ⟨v, h1, h2, h3⟩ => by
    obtain ⟨A1, c1, rfl⟩ := h2.slice
    exact ⟨A1, c1, h1, h2, h3⟩
theorem Pf.rgL {w u : World} {l : List (Nat × TypeId × List Value)} {rows : List (Option Addr × Nat × List Ho)} (hk : KeepF w l rows u) (i : Nat) {b : Nat} {t : TypeId} {p : Pf} {A : Option Addr} {c : Nat} (hp : p.full) (hi : l[i]? = some (b, t, (p.fd A c).cells)) : u.rangeAt b 582 (vals p.L.l) := (hk.get i hi).range (Pf.cL hp)
theorem KeepF.rgD {w u : World} {l : List (Nat × TypeId × List Value)} {rows : List (Option Addr × Nat × List Ho)} (hk : KeepF w l rows u) (i : Nat) {b : Nat} {t : TypeId} {D : List Int} (hi : l[i]? = some (b, t, vals D)) : u.rangeAt b 0 (vals D) := (hk.get i hi).range (fun j v h => by rw [Nat.zero_add]; exact h)
set_option maxHeartbeats 4000000 in
theorem fjoin_any (p q : Pf) (hp : p.full) (hq : q.full) (h1 : q.nm = p.nm) (h2 : q.k = p.k) (h3 : q.e = p.e) (A B : Option Addr) (c d : Nat) (w : World) (hd1 : Row w A p.hs.length p.hs) (hd2 : Row w B q.hs.length q.hs) :
    Calls Tryz.prog 82 #[.agg (p.fd A c).cells.toArray, .agg (q.fd B d).cells.toArray] w fun e w' => ∃ A1 c1, e = .returned (.tuple #[.agg ((joinP p q).fd A1 c1).cells.toArray, .int .i64 (joinPE p q)]) ∧ Got w A p.hs.length w' A1 c1 (joinP p q).hs ∧ Below w.heap.size w w' := by
  have hhd : headB p q = true := by simp [headB, h1, h2, h3]
  have hh1 := head_any p hp A c
  have hh2 := head_any q hq B d
  rw [show headC q = headC p by simp [headC, h1, h2, h3]] at hh2
  have HK := Lib.hid (KeepF.start (w := w) (rows := [(A, p.hs.length, p.hs), (B, q.hs.length, q.hs)]) (by simpa using ⟨hd1, hd2⟩))
  have HF := Lib.hid hp; have HG := Lib.hid hq
  have hcj := cjoin_any p.C q.C hp hq
  have HA := Lib.hid (cjA_length (B := q.C) hp)
  have e1 : joinPE p q = if cjE p.C q.C = 0 then joinE p.hs q.hs else cjE p.C q.C := by simp [joinPE, hhd]
  have e2 : joinP p q = toldP ⟨p.nm, p.k, p.e, cjA p.C q.C, joinK p.L q.L, joinLH p.hs q.hs⟩ (if cjE p.C q.C = 0 then joinE p.hs q.hs else cjE p.C q.C) := by rw [joinP, e1]
  rw [e1, e2]
  have hhj := fun w h1 h2 => join_sl A B p.hs.length c q.hs.length d p.hs q.hs w h1 h2
  have HLE := Lib.hid (show (joinLH p.hs q.hs).length ≤ 1000 by have := joinL_lenH p.hs q.hs; omega)
  have hlj := join_anyK p.L q.L
  clear hp hq e1 e2 hhd h1 h2 h3 hd1 hd2
  generalize cjA p.C q.C = D at hcj HA ⊢
  generalize cjE p.C q.C = E1 at hcj ⊢
  generalize joinLH p.hs q.hs = R at hhj HLE ⊢
  generalize joinE p.hs q.hs = E2 at hhj ⊢
  generalize joinK p.L q.L = M at hlj ⊢
  by_cases z1 : E1 = 0
  · subst z1
    rw [if_pos rfl]
    by_cases z2 : E2 = 0
    · subst z2
      rw [toldP_0]
      go_enter Tryz.func82, Tryz.ntmps82
      go_wp2_with (first
        | (with_reducible refine box_f HK.out rfl _ rfl rfl ?_; intro b1 u hk; clear HK; have HK := Lib.hid hk; clear hk; with_reducible refine box_f HK.out rfl _ rfl rfl ?_; intro b2 u hk; clear HK; have HK := Lib.hid hk; clear hk)
        | (with_reducible refine alloc_f HK.out f_zeroP rfl rfl ?_; intro br u hk; clear HK; have HK := Lib.hid hk; clear hk))
      refine Draws.start (S := fun u => KeepF w [(br, 33, (zP.fd none 0).cells), (b2, 33, (q.fd B d).cells), (b1, 33, (p.fd A c).cells)] [(A, p.hs.length, p.hs), (B, q.hs.length, q.hs)] u) (n := 5) 5 rfl (by kernel_rfl) ?_
      have hk := HK.out.drew
      clear HK; have HK := Lib.hid hk; clear hk
      have HS := Lib.hid (show (fun u => KeepF w [(br, 33, (zP.fd none 0).cells), (b2, 33, (q.fd B d).cells), (b1, 33, (p.fd A c).cells)] [(A, p.hs.length, p.hs), (B, q.hs.length, q.hs)] u) _ from HK.out)
      refine Draws.take 0 HS.out rfl (by kernel_rfl) (fun _ _ _ h => h) (yield_fr (fun _ h => h) 2 Tryz.underlying33 rfl (Pf.infoF HF.out) _ rfl rfl rfl rfl Pf.all) ?_
      (try simp only [Act.put, List.setIfInBounds_toArray, List.set_cons_zero, List.set_cons_succ])
      refine Draws.take 2 HS.out rfl (by kernel_rfl) (fun _ _ _ h => h) (yield_fr (fun _ h => h) 1 Tryz.underlying33 rfl (Pf.infoF HG.out) _ rfl rfl rfl rfl Pf.all) ?_
      (try simp only [Act.put, List.setIfInBounds_toArray, List.set_cons_zero, List.set_cons_succ])
      refine Draws.does 1 rfl (by kernel_rfl) rfl (fun K hK => ?_)
      go_simp
      go_at_call 53
      refine (hh1 _).mono ?_
      rintro e u ⟨rfl, hb⟩
      (try dsimp only)
      have hk := HK.out.call hb; clear hb; clear HK; have HK := Lib.hid hk; clear hk
      refine hK.out _ _ (fun _ => HK.out) ?_
      clear hK K
      have hs : (fun u => KeepF w [(br, 33, (zP.fd none 0).cells), (b2, 33, (q.fd B d).cells), (b1, 33, (p.fd A c).cells)] [(A, p.hs.length, p.hs), (B, q.hs.length, q.hs)] u) u := HK.out
      clear HS
      have HS := Lib.hid hs; clear hs
      (try simp only [Act.put, List.setIfInBounds_toArray, List.set_cons_zero, List.set_cons_succ])
      refine Draws.does 3 rfl (by kernel_rfl) rfl (fun K hK => ?_)
      go_simp
      go_at_call 53
      refine (hh2 _).mono ?_
      rintro e u ⟨rfl, hb⟩
      (try dsimp only)
      have hk := HK.out.call hb; clear hb; clear HK; have HK := Lib.hid hk; clear hk
      refine hK.out _ _ (fun _ => HK.out) ?_
      clear hK K
      have hs : (fun u => KeepF w [(br, 33, (zP.fd none 0).cells), (b2, 33, (q.fd B d).cells), (b1, 33, (p.fd A c).cells)] [(A, p.hs.length, p.hs), (B, q.hs.length, q.hs)] u) u := HK.out
      clear HS
      have HS := Lib.hid hs; clear hs
      (try simp only [Act.put, List.setIfInBounds_toArray, List.set_cons_zero, List.set_cons_succ])
      refine Draws.take 4 HS.out rfl (by kernel_rfl) (fun _ _ _ h => h) (yield_neqv hd_guard (eql_hd p) _ _ _ rfl rfl rfl rfl) ?_
      (try simp only [Act.put, List.setIfInBounds_toArray, List.set_cons_zero, List.set_cons_succ])
      refine Draws.done (by kernel_rfl) ?_
      clear HS
      go_wp2_with (first
        | (with_reducible refine load_fr HK.out 2 Tryz.underlying28 rfl (Pf.infoC HF.out) _ rfl rfl rfl rfl Pf.cC ?_)
        | (with_reducible refine load_fr HK.out 1 Tryz.underlying28 rfl (Pf.infoC HG.out) _ rfl rfl rfl rfl Pf.cC ?_)
        | (go_at_call 117; (with_reducible refine (hcj _).mono ?_); rintro e u ⟨rfl, hb⟩; have hk := HK.out.call hb; clear hb; clear HK; have HK := Lib.hid hk; clear hk)
        | (with_reducible refine alloc_f HK.out c_zeroF rfl rfl ?_; intro bd u hk; clear HK; have HK := Lib.hid hk; clear hk)
        | (with_reducible refine store_fr HK.out 0 (infoC HA.out) (vals_all _) rfl rfl _ _ rfl rfl rfl rfl (putC_le (zer_length 579) HA.out) (putC ((zer_length 579).trans HA.out.symm)) ?_; intro u hk; simp only [List.set_cons_zero, List.set_cons_succ] at hk; clear HK; have HK := Lib.hid hk; clear hk)
        | (with_reducible refine load_f1 HK.out 3 cbH _ rfl rfl rfl rfl (Pf.cH HF.out) ?_)
        | (with_reducible refine load_f1 HK.out 2 cbH _ rfl rfl rfl rfl (Pf.cH HG.out) ?_)
        | (go_at_call 118; (with_reducible refine (hhj _ (HK.out.rowAt 0 rfl) (HK.out.rowAt 1 rfl)).mono ?_); rintro e u ⟨A1, c1, rfl, ho, hb⟩; have HX := Lib.hid ((Fresh.own ho).mono HK.out.bel.size); have hk := HK.out.own hb ho HLE.out; clear ho hb; clear HK; have HK := Lib.hid hk; clear hk))
      refine Draws.start (S := fun u : World => u.rangeAt bd 0 (vals D) ∧ u.rangeAt b1 582 (vals p.L.l) ∧ u.rangeAt b2 582 (vals q.L.l)) (n := 12) 13 rfl (by kernel_rfl) ?_
      have hk := HK.out.drew
      clear HK; have HK := Lib.hid hk; clear hk
      have HS := Lib.hid (show (fun u : World => u.rangeAt bd 0 (vals D) ∧ u.rangeAt b1 582 (vals p.L.l) ∧ u.rangeAt b2 582 (vals q.L.l)) _ from ⟨HK.out.rgD 0 rfl, Pf.rgL (p := p) HK.out 3 HF.out rfl, Pf.rgL HK.out 2 HG.out rfl⟩)
      refine Draws.take 0 HS.out rfl (by kernel_rfl) (fun _ _ _ h => h) (yield_rng Tryz.underlying28 rfl (infoC HA.out) (fun _ h => h.1) _ rfl rfl rfl) ?_
      (try simp only [Act.put, List.setIfInBounds_toArray, List.set_cons_zero, List.set_cons_succ])
      refine Draws.take 1 (v := ?v1) HS.out rfl (by kernel_rfl) (fun _ _ _ h => h) (Or.inl ⟨rfl, ?h1⟩) ?r1
      case h1 => intro w' hw'; go_simp; (try with_reducible rfl)
      (try simp only [Act.put, List.setIfInBounds_toArray, List.set_cons_zero, List.set_cons_succ])
      refine Draws.take 2 (v := ?v2) HS.out rfl (by kernel_rfl) (fun _ _ _ h => h) (Or.inl ⟨rfl, ?h2⟩) ?r2
      case h2 => intro w' hw'; go_simp; (try with_reducible rfl)
      (try simp only [Act.put, List.setIfInBounds_toArray, List.set_cons_zero, List.set_cons_succ])
      refine Draws.take 3 HS.out rfl (by kernel_rfl) (fun _ _ _ h => h) (yield_rng Tryz.underlying30 rfl (l_infoF _) (fun _ h => h.2.1) _ rfl rfl rfl) ?_
      (try simp only [Act.put, List.setIfInBounds_toArray, List.set_cons_zero, List.set_cons_succ])
      refine Draws.take 4 (v := ?v3) HS.out rfl (by kernel_rfl) (fun _ _ _ h => h) (Or.inl ⟨rfl, ?h3⟩) ?r3
      case h3 => intro w' hw'; go_simp; (try with_reducible rfl)
      (try simp only [Act.put, List.setIfInBounds_toArray, List.set_cons_zero, List.set_cons_succ])
      refine Draws.take 5 HS.out rfl (by kernel_rfl) (fun _ _ _ h => h) (yield_rng Tryz.underlying30 rfl (l_infoF _) (fun _ h => h.2.2) _ rfl rfl rfl) ?_
      (try simp only [Act.put, List.setIfInBounds_toArray, List.set_cons_zero, List.set_cons_succ])
      refine Draws.take 7 (v := ?v4) HS.out rfl (by kernel_rfl) (fun _ _ _ h => h) (Or.inl ⟨rfl, ?h4⟩) ?r4
      case h4 => intro w' hw'; go_simp; (try with_reducible rfl)
      (try simp only [Act.put, List.setIfInBounds_toArray, List.set_cons_zero, List.set_cons_succ])
      refine Draws.does 6 rfl (by kernel_rfl) rfl (fun K hK => ?_)
      go_simp
      go_at_call 119
      refine (hlj _).mono ?_
      rintro e u ⟨rfl, hb⟩
      (try dsimp only)
      have hk := HK.out.call hb; clear hb; clear HK; have HK := Lib.hid hk; clear hk
      refine hK.out _ _ (fun _ => ⟨HK.out.rgD 0 rfl, Pf.rgL (p := p) HK.out 3 HF.out rfl, Pf.rgL HK.out 2 HG.out rfl⟩) ?_
      clear hK K
      have hs : (fun u : World => u.rangeAt bd 0 (vals D) ∧ u.rangeAt b1 582 (vals p.L.l) ∧ u.rangeAt b2 582 (vals q.L.l)) u := ⟨HK.out.rgD 0 rfl, Pf.rgL (p := p) HK.out 3 HF.out rfl, Pf.rgL HK.out 2 HG.out rfl⟩
      clear HS
      have HS := Lib.hid hs; clear hs
      (try simp only [Act.put, List.setIfInBounds_toArray, List.set_cons_zero, List.set_cons_succ])
      refine Draws.does 8 rfl (by kernel_rfl) rfl (fun K hK => ?_)
      refine wp_store_fr HK.out 3 (infoC HA.out) (vals_all _) rfl _ _ rfl rfl rfl rfl (Fd.leC HF.out HA.out) (Pf.toC HF.out HA.out) ?_
      intro u hk he; clear he; simp only [List.set_cons_zero, List.set_cons_succ] at hk; clear HK; have HK := Lib.hid hk; clear hk
      refine hK.out _ _ (fun _ => ⟨HK.out.rgD 0 rfl, Pf.rgL (p := p.setC D) HK.out 3 (Pf.fullC (p := p) (D := D) HA.out) rfl, Pf.rgL HK.out 2 HG.out rfl⟩) ?_
      clear hK K
      have hs : (fun u : World => u.rangeAt bd 0 (vals D) ∧ u.rangeAt b1 582 (vals p.L.l) ∧ u.rangeAt b2 582 (vals q.L.l)) u := ⟨HK.out.rgD 0 rfl, Pf.rgL (p := p.setC D) HK.out 3 (Pf.fullC (p := p) (D := D) HA.out) rfl, Pf.rgL HK.out 2 HG.out rfl⟩
      clear HS
      have HS := Lib.hid hs; clear hs
      (try simp only [Act.put, List.setIfInBounds_toArray, List.set_cons_zero, List.set_cons_succ])
      refine Draws.take 9 (v := ?v5) HS.out rfl (by kernel_rfl) (fun _ _ _ h => h) (Or.inl ⟨rfl, ?h5⟩) ?r5
      case h5 => intro w' hw'; go_simp; (try with_reducible rfl)
      (try simp only [Act.put, List.setIfInBounds_toArray, List.set_cons_zero, List.set_cons_succ])
      refine Draws.does 10 rfl (by kernel_rfl) rfl (fun K hK => ?_)
      refine wp_store_f1 HK.out 3 cbH rfl _ _ rfl rfl rfl rfl rfl (Fd.ltH (Pf.fullC (p := p) (D := D) HA.out)) (Pf.toH (Pf.fullC (p := p) (D := D) HA.out) _ _ _) ?_
      intro u hk he; clear he; simp only [List.set_cons_zero, List.set_cons_succ] at hk; clear HK; have HK := Lib.hid hk; clear hk
      refine hK.out _ _ (fun _ => ⟨HK.out.rgD 0 rfl, Pf.rgL (p := (p.setC D).setH R) HK.out 3 (Pf.fullH (Pf.fullC (p := p) (D := D) HA.out) R) rfl, Pf.rgL HK.out 2 HG.out rfl⟩) ?_
      clear hK K
      have hs : (fun u : World => u.rangeAt bd 0 (vals D) ∧ u.rangeAt b1 582 (vals p.L.l) ∧ u.rangeAt b2 582 (vals q.L.l)) u := ⟨HK.out.rgD 0 rfl, Pf.rgL (p := (p.setC D).setH R) HK.out 3 (Pf.fullH (Pf.fullC (p := p) (D := D) HA.out) R) rfl, Pf.rgL HK.out 2 HG.out rfl⟩
      clear HS
      have HS := Lib.hid hs; clear hs
      (try simp only [Act.put, List.setIfInBounds_toArray, List.set_cons_zero, List.set_cons_succ])
      refine Draws.take 11 (v := ?v6) HS.out rfl (by kernel_rfl) (fun _ _ _ h => h) (Or.inl ⟨rfl, ?h6⟩) ?r6
      case h6 => intro w' hw'; go_simp; (try with_reducible rfl)
      (try simp only [Act.put, List.setIfInBounds_toArray, List.set_cons_zero, List.set_cons_succ])
      refine Draws.does 12 rfl (by kernel_rfl) rfl (fun K hK => ?_)
      refine wp_store_fr HK.out 3 (l_infoF _) (vals_all _) rfl _ _ rfl rfl rfl rfl (Fd.leL (Pf.fullH (Pf.fullC (p := p) (D := D) HA.out) R)) (Pf.toL (Pf.fullH (Pf.fullC (p := p) (D := D) HA.out) R) _) ?_
      intro u hk he; clear he; simp only [List.set_cons_zero, List.set_cons_succ] at hk; clear HK; have HK := Lib.hid hk; clear hk
      refine hK.out _ _ (fun h => absurd h (by decide)) ?_
      clear hK K
      (try simp only [Act.put, List.setIfInBounds_toArray, List.set_cons_zero, List.set_cons_succ])
      refine Draws.done (by kernel_rfl) ?_
      clear HS
      go_wp2_with (first
        | (with_reducible refine load_fr HK.out 3 Tryz.underlying33 rfl (Pf.infoF (Pf.fullL (Pf.fullH (Pf.fullC (p := p) (D := D) HA.out) R) M)) _ rfl rfl rfl rfl Pf.all ?_)
        | (with_reducible refine store_fr HK.out 1 (Pf.infoF (Pf.fullL (Pf.fullH (Pf.fullC (p := p) (D := D) HA.out) R) M)) (Fd.one _) rfl rfl _ _ rfl rfl rfl rfl (Fd.leP zP_full (Pf.fullL (Pf.fullH (Pf.fullC (p := p) (D := D) HA.out) R) M)) (Fd.setAllP zP_full (Pf.fullL (Pf.fullH (Pf.fullC (p := p) (D := D) HA.out) R) M)) ?_; intro u hk; simp only [List.set_cons_zero, List.set_cons_succ] at hk; clear HK; have HK := Lib.hid hk; clear hk))
      exact bodyPost_ret (results_f2 rfl Tryz.underlying33 rfl (Pf.infoF (Pf.fullL (Pf.fullH (Pf.fullC (p := p) (D := D) HA.out) R) M)) _ HK.out 1 _ rfl rfl rfl) rfl ⟨A1, c1, rfl, Got.of (HK.out.rowAt 0 rfl) HX.out, HK.out.bel⟩
    · rw [toldP_n _ z2]
      have d2 : (E2 != 0) = true := by simpa using z2
      go_enter Tryz.func82, Tryz.ntmps82
      go_wp2_with (first
        | (with_reducible refine box_f HK.out rfl _ rfl rfl ?_; intro b1 u hk; clear HK; have HK := Lib.hid hk; clear hk; with_reducible refine box_f HK.out rfl _ rfl rfl ?_; intro b2 u hk; clear HK; have HK := Lib.hid hk; clear hk)
        | (with_reducible refine alloc_f HK.out f_zeroP rfl rfl ?_; intro br u hk; clear HK; have HK := Lib.hid hk; clear hk))
      refine Draws.start (S := fun u => KeepF w [(br, 33, (zP.fd none 0).cells), (b2, 33, (q.fd B d).cells), (b1, 33, (p.fd A c).cells)] [(A, p.hs.length, p.hs), (B, q.hs.length, q.hs)] u) (n := 5) 5 rfl (by kernel_rfl) ?_
      have hk := HK.out.drew
      clear HK; have HK := Lib.hid hk; clear hk
      have HS := Lib.hid (show (fun u => KeepF w [(br, 33, (zP.fd none 0).cells), (b2, 33, (q.fd B d).cells), (b1, 33, (p.fd A c).cells)] [(A, p.hs.length, p.hs), (B, q.hs.length, q.hs)] u) _ from HK.out)
      refine Draws.take 0 HS.out rfl (by kernel_rfl) (fun _ _ _ h => h) (yield_fr (fun _ h => h) 2 Tryz.underlying33 rfl (Pf.infoF HF.out) _ rfl rfl rfl rfl Pf.all) ?_
      (try simp only [Act.put, List.setIfInBounds_toArray, List.set_cons_zero, List.set_cons_succ])
      refine Draws.take 2 HS.out rfl (by kernel_rfl) (fun _ _ _ h => h) (yield_fr (fun _ h => h) 1 Tryz.underlying33 rfl (Pf.infoF HG.out) _ rfl rfl rfl rfl Pf.all) ?_
      (try simp only [Act.put, List.setIfInBounds_toArray, List.set_cons_zero, List.set_cons_succ])
      refine Draws.does 1 rfl (by kernel_rfl) rfl (fun K hK => ?_)
      go_simp
      go_at_call 53
      refine (hh1 _).mono ?_
      rintro e u ⟨rfl, hb⟩
      (try dsimp only)
      have hk := HK.out.call hb; clear hb; clear HK; have HK := Lib.hid hk; clear hk
      refine hK.out _ _ (fun _ => HK.out) ?_
      clear hK K
      have hs : (fun u => KeepF w [(br, 33, (zP.fd none 0).cells), (b2, 33, (q.fd B d).cells), (b1, 33, (p.fd A c).cells)] [(A, p.hs.length, p.hs), (B, q.hs.length, q.hs)] u) u := HK.out
      clear HS
      have HS := Lib.hid hs; clear hs
      (try simp only [Act.put, List.setIfInBounds_toArray, List.set_cons_zero, List.set_cons_succ])
      refine Draws.does 3 rfl (by kernel_rfl) rfl (fun K hK => ?_)
      go_simp
      go_at_call 53
      refine (hh2 _).mono ?_
      rintro e u ⟨rfl, hb⟩
      (try dsimp only)
      have hk := HK.out.call hb; clear hb; clear HK; have HK := Lib.hid hk; clear hk
      refine hK.out _ _ (fun _ => HK.out) ?_
      clear hK K
      have hs : (fun u => KeepF w [(br, 33, (zP.fd none 0).cells), (b2, 33, (q.fd B d).cells), (b1, 33, (p.fd A c).cells)] [(A, p.hs.length, p.hs), (B, q.hs.length, q.hs)] u) u := HK.out
      clear HS
      have HS := Lib.hid hs; clear hs
      (try simp only [Act.put, List.setIfInBounds_toArray, List.set_cons_zero, List.set_cons_succ])
      refine Draws.take 4 HS.out rfl (by kernel_rfl) (fun _ _ _ h => h) (yield_neqv hd_guard (eql_hd p) _ _ _ rfl rfl rfl rfl) ?_
      (try simp only [Act.put, List.setIfInBounds_toArray, List.set_cons_zero, List.set_cons_succ])
      refine Draws.done (by kernel_rfl) ?_
      clear HS
      go_wp2_with (first
        | (with_reducible refine load_fr HK.out 2 Tryz.underlying28 rfl (Pf.infoC HF.out) _ rfl rfl rfl rfl Pf.cC ?_)
        | (with_reducible refine load_fr HK.out 1 Tryz.underlying28 rfl (Pf.infoC HG.out) _ rfl rfl rfl rfl Pf.cC ?_)
        | (go_at_call 117; (with_reducible refine (hcj _).mono ?_); rintro e u ⟨rfl, hb⟩; have hk := HK.out.call hb; clear hb; clear HK; have HK := Lib.hid hk; clear hk)
        | (with_reducible refine alloc_f HK.out c_zeroF rfl rfl ?_; intro bd u hk; clear HK; have HK := Lib.hid hk; clear hk)
        | (with_reducible refine store_fr HK.out 0 (infoC HA.out) (vals_all _) rfl rfl _ _ rfl rfl rfl rfl (putC_le (zer_length 579) HA.out) (putC ((zer_length 579).trans HA.out.symm)) ?_; intro u hk; simp only [List.set_cons_zero, List.set_cons_succ] at hk; clear HK; have HK := Lib.hid hk; clear hk)
        | (with_reducible refine load_f1 HK.out 3 cbH _ rfl rfl rfl rfl (Pf.cH HF.out) ?_)
        | (with_reducible refine load_f1 HK.out 2 cbH _ rfl rfl rfl rfl (Pf.cH HG.out) ?_)
        | (go_at_call 118; (with_reducible refine (hhj _ (HK.out.rowAt 0 rfl) (HK.out.rowAt 1 rfl)).mono ?_); rintro e u ⟨A1, c1, rfl, ho, hb⟩; have HX := Lib.hid ((Fresh.own ho).mono HK.out.bel.size); have hk := HK.out.own hb ho HLE.out; clear ho hb; clear HK; have HK := Lib.hid hk; clear hk)
        | (with_reducible refine build_f f_buildP rfl rfl ?_)
        | (with_reducible refine store_fr HK.out 1 (Pf.infoF zP_full) (Fd.one _) rfl rfl _ _ rfl rfl rfl rfl (Fd.leP zP_full zP_full) (Fd.setAllP zP_full zP_full) ?_; intro u hk; simp only [List.set_cons_zero, List.set_cons_succ] at hk; clear HK; have HK := Lib.hid hk; clear hk))
      exact bodyPost_ret (results_f2 rfl Tryz.underlying33 rfl (Pf.infoF zP_full) _ HK.out 1 _ rfl rfl rfl) rfl ⟨none, 0, rfl, Got.nil _ _ _ _ _ _, HK.out.bel⟩
  · rw [if_neg z1, toldP_n _ z1]
    have d1 : (E1 != 0) = true := by simpa using z1
    go_enter Tryz.func82, Tryz.ntmps82
    go_wp2_with (first
      | (with_reducible refine box_f HK.out rfl _ rfl rfl ?_; intro b1 u hk; clear HK; have HK := Lib.hid hk; clear hk; with_reducible refine box_f HK.out rfl _ rfl rfl ?_; intro b2 u hk; clear HK; have HK := Lib.hid hk; clear hk)
      | (with_reducible refine alloc_f HK.out f_zeroP rfl rfl ?_; intro br u hk; clear HK; have HK := Lib.hid hk; clear hk))
    refine Draws.start (S := fun u => KeepF w [(br, 33, (zP.fd none 0).cells), (b2, 33, (q.fd B d).cells), (b1, 33, (p.fd A c).cells)] [(A, p.hs.length, p.hs), (B, q.hs.length, q.hs)] u) (n := 5) 5 rfl (by kernel_rfl) ?_
    have hk := HK.out.drew
    clear HK; have HK := Lib.hid hk; clear hk
    have HS := Lib.hid (show (fun u => KeepF w [(br, 33, (zP.fd none 0).cells), (b2, 33, (q.fd B d).cells), (b1, 33, (p.fd A c).cells)] [(A, p.hs.length, p.hs), (B, q.hs.length, q.hs)] u) _ from HK.out)
    refine Draws.take 0 HS.out rfl (by kernel_rfl) (fun _ _ _ h => h) (yield_fr (fun _ h => h) 2 Tryz.underlying33 rfl (Pf.infoF HF.out) _ rfl rfl rfl rfl Pf.all) ?_
    (try simp only [Act.put, List.setIfInBounds_toArray, List.set_cons_zero, List.set_cons_succ])
    refine Draws.take 2 HS.out rfl (by kernel_rfl) (fun _ _ _ h => h) (yield_fr (fun _ h => h) 1 Tryz.underlying33 rfl (Pf.infoF HG.out) _ rfl rfl rfl rfl Pf.all) ?_
    (try simp only [Act.put, List.setIfInBounds_toArray, List.set_cons_zero, List.set_cons_succ])
    refine Draws.does 1 rfl (by kernel_rfl) rfl (fun K hK => ?_)
    go_simp
    go_at_call 53
    refine (hh1 _).mono ?_
    rintro e u ⟨rfl, hb⟩
    (try dsimp only)
    have hk := HK.out.call hb; clear hb; clear HK; have HK := Lib.hid hk; clear hk
    refine hK.out _ _ (fun _ => HK.out) ?_
    clear hK K
    have hs : (fun u => KeepF w [(br, 33, (zP.fd none 0).cells), (b2, 33, (q.fd B d).cells), (b1, 33, (p.fd A c).cells)] [(A, p.hs.length, p.hs), (B, q.hs.length, q.hs)] u) u := HK.out
    clear HS
    have HS := Lib.hid hs; clear hs
    (try simp only [Act.put, List.setIfInBounds_toArray, List.set_cons_zero, List.set_cons_succ])
    refine Draws.does 3 rfl (by kernel_rfl) rfl (fun K hK => ?_)
    go_simp
    go_at_call 53
    refine (hh2 _).mono ?_
    rintro e u ⟨rfl, hb⟩
    (try dsimp only)
    have hk := HK.out.call hb; clear hb; clear HK; have HK := Lib.hid hk; clear hk
    refine hK.out _ _ (fun _ => HK.out) ?_
    clear hK K
    have hs : (fun u => KeepF w [(br, 33, (zP.fd none 0).cells), (b2, 33, (q.fd B d).cells), (b1, 33, (p.fd A c).cells)] [(A, p.hs.length, p.hs), (B, q.hs.length, q.hs)] u) u := HK.out
    clear HS
    have HS := Lib.hid hs; clear hs
    (try simp only [Act.put, List.setIfInBounds_toArray, List.set_cons_zero, List.set_cons_succ])
    refine Draws.take 4 HS.out rfl (by kernel_rfl) (fun _ _ _ h => h) (yield_neqv hd_guard (eql_hd p) _ _ _ rfl rfl rfl rfl) ?_
    (try simp only [Act.put, List.setIfInBounds_toArray, List.set_cons_zero, List.set_cons_succ])
    refine Draws.done (by kernel_rfl) ?_
    clear HS
    go_wp2_with (first
      | (with_reducible refine load_fr HK.out 2 Tryz.underlying28 rfl (Pf.infoC HF.out) _ rfl rfl rfl rfl Pf.cC ?_)
      | (with_reducible refine load_fr HK.out 1 Tryz.underlying28 rfl (Pf.infoC HG.out) _ rfl rfl rfl rfl Pf.cC ?_)
      | (go_at_call 117; (with_reducible refine (hcj _).mono ?_); rintro e u ⟨rfl, hb⟩; have hk := HK.out.call hb; clear hb; clear HK; have HK := Lib.hid hk; clear hk)
      | (with_reducible refine alloc_f HK.out c_zeroF rfl rfl ?_; intro bd u hk; clear HK; have HK := Lib.hid hk; clear hk)
      | (with_reducible refine store_fr HK.out 0 (infoC HA.out) (vals_all _) rfl rfl _ _ rfl rfl rfl rfl (putC_le (zer_length 579) HA.out) (putC ((zer_length 579).trans HA.out.symm)) ?_; intro u hk; simp only [List.set_cons_zero, List.set_cons_succ] at hk; clear HK; have HK := Lib.hid hk; clear hk)
      | (with_reducible refine build_f f_buildP rfl rfl ?_)
      | (with_reducible refine store_fr HK.out 1 (Pf.infoF zP_full) (Fd.one _) rfl rfl _ _ rfl rfl rfl rfl (Fd.leP zP_full zP_full) (Fd.setAllP zP_full zP_full) ?_; intro u hk; simp only [List.set_cons_zero, List.set_cons_succ] at hk; clear HK; have HK := Lib.hid hk; clear hk))
    exact bodyPost_ret (results_f2 rfl Tryz.underlying33 rfl (Pf.infoF zP_full) _ HK.out 1 _ rfl rfl rfl) rfl ⟨none, 0, rfl, Got.nil _ _ _ _ _ _, HK.out.bel⟩

/-! ### Sixteen fields. -/
abbrev Q := Pf × Option Addr × Nat
def Q.cells (x : Q) : List Value := (x.1.fd x.2.1 x.2.2).cells
def fcs (qs : List Q) : List Value := qs.flatMap Q.cells
def rws (qs : List Q) : List (Option Addr × Nat × List Ho) := qs.map fun x => (x.2.1, x.1.hs.length, x.1.hs)
theorem fcs_len : ∀ {qs : List Q}, (∀ x ∈ qs, x.1.full) → (fcs qs).length = qs.length * 587
  | [], _ => rfl
  | x :: qs, h => by
    have ih := fcs_len (qs := qs) fun y hy => h y (List.mem_cons_of_mem _ hy)
    have e : (Q.cells x).length = 587 := Pf.len (h x List.mem_cons_self)
    rw [show fcs (x :: qs) = Q.cells x ++ fcs qs from rfl, List.length_append, ih, e, List.length_cons]
    omega
theorem fcs_split {qs : List Q} {j : Nat} {x : Q} (hj : qs[j]? = some x) : fcs qs = fcs (qs.take j) ++ (Q.cells x ++ fcs (qs.drop (j + 1))) := by
  have hl := (List.getElem?_eq_some_iff.1 hj)
  obtain ⟨hlt, hx⟩ := hl
  have e : qs = qs.take j ++ x :: qs.drop (j + 1) := by
    rw [← hx, List.getElem_cons_drop, List.take_append_drop]
  calc fcs qs = fcs (qs.take j ++ x :: qs.drop (j + 1)) := by rw [← e]
    _ = _ := by simp [fcs]
theorem take_len {qs : List Q} (hf : ∀ x ∈ qs, x.1.full) {j : Nat} (hj : j < qs.length) : (fcs (qs.take j)).length = j * 587 := by
  rw [fcs_len fun x hx => hf x (List.mem_of_mem_take hx), List.length_take, Nat.min_eq_left (by omega)]
theorem fcs_get {qs : List Q} (hf : ∀ x ∈ qs, x.1.full) {j : Nat} {x : Q} (hj : qs[j]? = some x) : ∀ i v, (x.1.fd x.2.1 x.2.2).cells[i]? = some v → (fcs qs)[j * 587 + i]? = some v := fun i v hv => by
  have hlt := (List.getElem?_eq_some_iff.1 hj).1
  have hi := (List.getElem?_eq_some_iff.1 hv).1
  rw [fcs_split hj, List.getElem?_append_right (by rw [take_len hf hlt]; omega), take_len hf hlt, Nat.add_sub_cancel_left, List.getElem?_append_left (show i < (Q.cells x).length from hi)]
  exact hv
theorem fcs_set {qs : List Q} (hf : ∀ x ∈ qs, x.1.full) {j : Nat} (hj : j < qs.length) {y : Q} (hy : y.1.full) : spl (fcs qs) (j * 587) (y.1.fd y.2.1 y.2.2).cells = fcs (qs.set j y) := by
  have hx : qs[j]? = some qs[j] := List.getElem?_eq_getElem hj
  have h1 := spl_mid (Q.cells y) (Q.cells qs[j]) (fcs (qs.take j)) (fcs (qs.drop (j + 1))) (by rw [show (Q.cells qs[j]).length = 587 from Pf.len (hf _ (List.getElem_mem hj)), show (Q.cells y).length = 587 from Pf.len hy])
  rw [take_len hf hj, ← fcs_split hx] at h1
  rw [show (y.1.fd y.2.1 y.2.2).cells = Q.cells y from rfl, h1]
  have h2 : (qs.set j y)[j]? = some y := by rw [List.getElem?_set]; simp [hj]
  rw [fcs_split h2]
  simp only [List.take_set_of_le (Nat.le_refl j), List.drop_set_of_lt (Nat.lt_succ_self j)]
theorem fcs_le {qs : List Q} (hf : ∀ x ∈ qs, x.1.full) {j : Nat} (hj : j < qs.length) {y : Q} (hy : y.1.full) : j * 587 + (y.1.fd y.2.1 y.2.2).cells.length ≤ (fcs qs).length := by
  rw [fcs_len hf, show (y.1.fd y.2.1 y.2.2).cells.length = 587 from Pf.len hy]
  have : (j + 1) * 587 ≤ qs.length * 587 := Nat.mul_le_mul_right _ hj
  omega
section
variable {w u : World} {l : List (Nat × TypeId × List Value)} {qs : List Q}
theorem rws_at {j : Nat} {x : Q} (hj : qs[j]? = some x) : (rws qs)[j]? = some (x.2.1, x.1.hs.length, x.1.hs) := by simp [rws, hj]
theorem KeepF.rowQ (hk : KeepF w l (rws qs) u) {j : Nat} {x : Q} (hj : qs[j]? = some x) : Row u x.2.1 x.1.hs.length x.1.hs := hk.rowAt j (rws_at hj)
theorem KeepF.setQ {A : Option Addr} {c j : Nat} {p : Pf} (hk : KeepF w l ((A, p.hs.length, p.hs) :: rws qs) u) : KeepF w l (rws (qs.set j (p, A, c))) u :=
  hk.look fun r hr => by
    obtain ⟨x, hx, rfl⟩ := List.mem_map.1 hr
    rcases List.mem_or_eq_of_mem_set hx with hx | rfl
    · exact List.mem_cons_of_mem _ (List.mem_map.2 ⟨x, hx, rfl⟩)
    · exact List.mem_cons_self
end
end Go.Proofs.YtbaccghnneidgaaGreat
