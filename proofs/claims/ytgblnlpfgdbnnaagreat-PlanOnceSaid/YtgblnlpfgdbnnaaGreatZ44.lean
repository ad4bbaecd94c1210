/- Contract of field.Join of fields of one head; sixteen fields in memory; contract of the statements' Step.; A field joined with itself; fields that are the same. -/
import Derived.Test.YtgblnlpfgdbnnaaGreatZ07
import Derived.Test.YtgblnlpfgdbnnaaGreatZ37
namespace Go.Proofs.YtgblnlpfgdbnnaaGreat
set_option maxRecDepth 100000
open Go.ChangeShapes Go.WideShapes Go.ChangeAt Go.RowKit

section
variable {ops : Array Oper} {S : World → Prop} {o : Oper} {a : Act}
theorem yield_neqv {ty : TypeId} {xs : List Value} (hge : Tryz.prog.eqGuardType Tryz.prog.depth ty = false) (hq : ∀ W, (Op.equalIn 10000 ty (.agg xs.toArray) (.agg xs.toArray)).run Tryz.prog W = .ok true W) (x y : Operand) (t : TypeId) (ho : o.op = .binOp .neq ty x y t) (hx : a.eval x = .agg xs.toArray) (hy : a.eval y = .agg xs.toArray) (hw : Region.wanted o (yielded ops a.tmps) = true) :
    YieldsIf Tryz.prog ops S o (.bool false) a :=
  .inl ⟨hw, fun w _ => by
    unfold execOp
    simp only [ho, hx, hy]
    simp [go_sem, hq, hge]⟩
theorem yield_rng {ty : TypeId} {d : TypeDesc} (hu : Tryz.prog.underlying ty = some d) (hd : d.isRow = true) {xs : List Value} (hs : (Tryz.prog.info? ty).map (·.size) = some xs.length) {b off : Nat} (hr : ∀ u, S u → u.rangeAt b off xs)
    (x : Operand) (ho : o.op = .load ty x) (hx : a.eval x = .pointer (some ⟨b, off, none⟩)) (hw : Region.wanted o (yielded ops a.tmps) = true) : YieldsIf Tryz.prog ops S o (.agg xs.toArray) a :=
  yieldsIf_load_mid hw ty x ho b off hx xs d hr hu hd hs
end
theorem join_sl (A B : Option Addr) (na ca nb cb : Nat) (xa xb : List Ho) (w : World) (hda : Row w A na xa) (hdb : Row w B nb xb) :
    Calls Tryz.prog 57 #[.slice A na ca, .slice B nb cb] w fun e w' => ∃ A1 c1, e = .returned (.tuple #[.slice A1 (joinLH xa xb).length c1, .int .i64 (joinE xa xb)]) ∧ Own w' w.heap.size (.slice A1 (joinLH xa xb).length c1) (joinLH xa xb) ∧ Below w.heap.size w w' :=
  (join_anyH A B na ca nb cb xa xb w hda hdb).mono fun e w' ⟨v, h1, h2, h3⟩ => by
    obtain ⟨A1, c1, rfl⟩ := h2.slice
    exact ⟨A1, c1, h1, h2, h3⟩
theorem Pf.rgL {w u : World} {l : List (Nat × TypeId × List Value)} {rows : List (Option Addr × Nat × List Ho)} (hk : KeepF w l rows u) (i : Nat) {b : Nat} {t : TypeId} {p : Pf} {A : Option Addr} {c : Nat} (hp : p.full) (hi : l[i]? = some (b, t, (p.fd A c).cells)) : u.rangeAt b 582 (vals p.L.l) := (hk.get i hi).range (Pf.cL hp)
theorem KeepF.rgD {w u : World} {l : List (Nat × TypeId × List Value)} {rows : List (Option Addr × Nat × List Ho)} (hk : KeepF w l rows u) (i : Nat) {b : Nat} {t : TypeId} {D : List Int} (hi : l[i]? = some (b, t, vals D)) : u.rangeAt b 0 (vals D) := (hk.get i hi).range (fun j v h => by rw [Nat.zero_add]; exact h)
set_option maxHeartbeats 4000000 in
theorem fjoin_any (p q : Pf) (hp : p.full) (hq : q.full) (h1 : q.nm = p.nm) (h2 : q.k = p.k) (h3 : q.e = p.e) (A B : Option Addr) (c d : Nat) (w : World) (hd1 : Row w A p.hs.length p.hs) (hd2 : Row w B q.hs.length q.hs) :
    Calls Tryz.prog 25 #[.agg (p.fd A c).cells.toArray, .agg (q.fd B d).cells.toArray] w fun e w' => ∃ A1 c1, e = .returned (.tuple #[.agg ((joinP p q).fd A1 c1).cells.toArray, .int .i64 (joinPE p q)]) ∧ Got w A p.hs.length w' A1 c1 (joinP p q).hs ∧ Below w.heap.size w w' := by
  have hhd : headB p q = true := by simp [headB, h1, h2, h3]
  have hh1 := head_any p hp A c
  have hh2 := head_any q hq B d
  rw [show headC q = headC p by simp [headC, h1, h2, h3]] at hh2
  have HK := Lib.hid (KeepF.start (w := w) (rows := [(A, p.hs.length, p.hs), (B, q.hs.length, q.hs)]) (by simpa using ⟨hd1, hd2⟩))
  have HF := Lib.hid hp; have HG := Lib.hid hq
  have hcj := cjoin_any p.C q.C hp hq
  have HA := Lib.hid (cjA_length (B := q.C) hp)
  have e1 : joinPE p q = if cjE p.C q.C = 0 then joinE p.hs q.hs else cjE p.C q.C := by simp [joinPE, hhd]
  have e2 : joinP p q = toldP ⟨p.nm, p.k, p.e, cjA p.C q.C, joinK p.L q.L, joinLH p.hs q.hs⟩ (if cjE p.C q.C = 0 then joinE p.hs q.hs else cjE p.C q.C) := by rw [joinP, e1]
  rw [e1, e2]
  have hhj := fun w h1 h2 => join_sl A B p.hs.length c q.hs.length d p.hs q.hs w h1 h2
  have HLE := Lib.hid (show (joinLH p.hs q.hs).length ≤ 1000 by have := joinL_lenH p.hs q.hs; omega)
  have hlj := join_anyK p.L q.L
  clear hp hq e1 e2 hhd h1 h2 h3 hd1 hd2
  generalize cjA p.C q.C = D at hcj HA ⊢
  generalize cjE p.C q.C = E1 at hcj ⊢
  generalize joinLH p.hs q.hs = R at hhj HLE ⊢
  generalize joinE p.hs q.hs = E2 at hhj ⊢
  generalize joinK p.L q.L = M at hlj ⊢
  by_cases z1 : E1 = 0
  · subst z1
    rw [if_pos rfl]
    by_cases z2 : E2 = 0
    · subst z2
      rw [toldP_0]
      go_enter Tryz.func25, Tryz.ntmps25
      go_wp2_with (first
        | (with_reducible refine box_f HK.out rfl _ rfl rfl ?_; intro b1 u hk; clear HK; have HK := Lib.hid hk; clear hk; with_reducible refine box_f HK.out rfl _ rfl rfl ?_; intro b2 u hk; clear HK; have HK := Lib.hid hk; clear hk)
        | (with_reducible refine alloc_f HK.out f_zeroP rfl rfl ?_; intro br u hk; clear HK; have HK := Lib.hid hk; clear hk))
      refine Draws.start (S := fun u => KeepF w [(br, 43, (zP.fd none 0).cells), (b2, 43, (q.fd B d).cells), (b1, 43, (p.fd A c).cells)] [(A, p.hs.length, p.hs), (B, q.hs.length, q.hs)] u) (n := 5) 5 rfl (by kernel_rfl) ?_
      have hk := HK.out.drew
      clear HK; have HK := Lib.hid hk; clear hk
      have HS := Lib.hid (show (fun u => KeepF w [(br, 43, (zP.fd none 0).cells), (b2, 43, (q.fd B d).cells), (b1, 43, (p.fd A c).cells)] [(A, p.hs.length, p.hs), (B, q.hs.length, q.hs)] u) _ from HK.out)
      refine Draws.take 0 HS.out rfl (by kernel_rfl) (fun _ _ _ h => h) (yield_fr (fun _ h => h) 2 Tryz.underlying43 rfl (Pf.infoF HF.out) _ rfl rfl rfl rfl Pf.all) ?_
      (try simp only [Act.put, lsA, lsB, lsC])
      refine Draws.take 2 HS.out rfl (by kernel_rfl) (fun _ _ _ h => h) (yield_fr (fun _ h => h) 1 Tryz.underlying43 rfl (Pf.infoF HG.out) _ rfl rfl rfl rfl Pf.all) ?_
      (try simp only [Act.put, lsA, lsB, lsC])
      refine Draws.does 1 rfl (by kernel_rfl) rfl (fun K hK => ?_)
      go_simp
      go_at_call 55
      refine (hh1 _).mono ?_
      rintro e u ⟨rfl, hb⟩
      (try dsimp only)
      have hk := HK.out.call hb; clear hb; clear HK; have HK := Lib.hid hk; clear hk
      refine hK.out _ _ (fun _ => HK.out) ?_
      clear hK K
      have hs : (fun u => KeepF w [(br, 43, (zP.fd none 0).cells), (b2, 43, (q.fd B d).cells), (b1, 43, (p.fd A c).cells)] [(A, p.hs.length, p.hs), (B, q.hs.length, q.hs)] u) u := HK.out
      clear HS
      have HS := Lib.hid hs; clear hs
      (try simp only [Act.put, lsA, lsB, lsC])
      refine Draws.does 3 rfl (by kernel_rfl) rfl (fun K hK => ?_)
      go_simp
      go_at_call 55
      refine (hh2 _).mono ?_
      rintro e u ⟨rfl, hb⟩
      (try dsimp only)
      have hk := HK.out.call hb; clear hb; clear HK; have HK := Lib.hid hk; clear hk
      refine hK.out _ _ (fun _ => HK.out) ?_
      clear hK K
      have hs : (fun u => KeepF w [(br, 43, (zP.fd none 0).cells), (b2, 43, (q.fd B d).cells), (b1, 43, (p.fd A c).cells)] [(A, p.hs.length, p.hs), (B, q.hs.length, q.hs)] u) u := HK.out
      clear HS
      have HS := Lib.hid hs; clear hs
      (try simp only [Act.put, lsA, lsB, lsC])
      refine Draws.take 4 HS.out rfl (by kernel_rfl) (fun _ _ _ h => h) (yield_neqv hd_guard (eql_hd p) _ _ _ rfl rfl rfl rfl) ?_
      (try simp only [Act.put, lsA, lsB, lsC])
      refine Draws.done (by kernel_rfl) ?_
      clear HS
      go_wp2_with (first
        | (with_reducible refine load_fr HK.out 2 Tryz.underlying38 rfl (Pf.infoC HF.out) _ rfl rfl rfl rfl Pf.cC ?_)
        | (with_reducible refine load_fr HK.out 1 Tryz.underlying38 rfl (Pf.infoC HG.out) _ rfl rfl rfl rfl Pf.cC ?_)
        | (go_at_call 56; (with_reducible refine (hcj _).mono ?_); rintro e u ⟨rfl, hb⟩; have hk := HK.out.call hb; clear hb; clear HK; have HK := Lib.hid hk; clear hk)
        | (with_reducible refine alloc_f HK.out c_zeroF rfl rfl ?_; intro bd u hk; clear HK; have HK := Lib.hid hk; clear hk)
        | (with_reducible refine store_fr HK.out 0 (infoC HA.out) (vals_all _) rfl rfl _ _ rfl rfl rfl rfl (putC_le (zer_length 579) HA.out) (putC ((zer_length 579).trans HA.out.symm)) ?_; intro u hk; simp only [List.set_cons_zero] at hk; clear HK; have HK := Lib.hid hk; clear hk)
        | (with_reducible refine load_f1 HK.out 3 cbH _ rfl rfl rfl rfl (Pf.cH HF.out) ?_)
        | (with_reducible refine load_f1 HK.out 2 cbH _ rfl rfl rfl rfl (Pf.cH HG.out) ?_)
        | (go_at_call 57; (with_reducible refine (hhj _ (HK.out.rowAt 0 rfl) (HK.out.rowAt 1 rfl)).mono ?_); rintro e u ⟨A1, c1, rfl, ho, hb⟩; have HX := Lib.hid ((Fresh.own ho).mono HK.out.bel.size); have hk := HK.out.own hb ho HLE.out; clear ho hb; clear HK; have HK := Lib.hid hk; clear hk))
      refine Draws.start (S := fun u : World => u.rangeAt bd 0 (vals D) ∧ u.rangeAt b1 582 (vals p.L.l) ∧ u.rangeAt b2 582 (vals q.L.l)) (n := 12) 13 rfl (by kernel_rfl) ?_
      have hk := HK.out.drew
      clear HK; have HK := Lib.hid hk; clear hk
      have HS := Lib.hid (show (fun u : World => u.rangeAt bd 0 (vals D) ∧ u.rangeAt b1 582 (vals p.L.l) ∧ u.rangeAt b2 582 (vals q.L.l)) _ from ⟨HK.out.rgD 0 rfl, Pf.rgL (p := p) HK.out 3 HF.out rfl, Pf.rgL HK.out 2 HG.out rfl⟩)
      refine Draws.take 0 HS.out rfl (by kernel_rfl) (fun _ _ _ h => h) (yield_rng Tryz.underlying38 rfl (infoC HA.out) (fun _ h => h.1) _ rfl rfl rfl) ?_
      (try simp only [Act.put, lsA, lsB, lsC])
      refine Draws.take 1 (v := ?v1) HS.out rfl (by kernel_rfl) (fun _ _ _ h => h) (Or.inl ⟨rfl, ?h1⟩) ?r1
      case h1 => intro w' hw'; go_simp; (try with_reducible rfl)
      (try simp only [Act.put, lsA, lsB, lsC])
      refine Draws.take 2 (v := ?v2) HS.out rfl (by kernel_rfl) (fun _ _ _ h => h) (Or.inl ⟨rfl, ?h2⟩) ?r2
      case h2 => intro w' hw'; go_simp; (try with_reducible rfl)
      (try simp only [Act.put, lsA, lsB, lsC])
      refine Draws.take 3 HS.out rfl (by kernel_rfl) (fun _ _ _ h => h) (yield_rng Tryz.underlying40 rfl (l_infoF _) (fun _ h => h.2.1) _ rfl rfl rfl) ?_
      (try simp only [Act.put, lsA, lsB, lsC])
      refine Draws.take 4 (v := ?v3) HS.out rfl (by kernel_rfl) (fun _ _ _ h => h) (Or.inl ⟨rfl, ?h3⟩) ?r3
      case h3 => intro w' hw'; go_simp; (try with_reducible rfl)
      (try simp only [Act.put, lsA, lsB, lsC])
      refine Draws.take 5 HS.out rfl (by kernel_rfl) (fun _ _ _ h => h) (yield_rng Tryz.underlying40 rfl (l_infoF _) (fun _ h => h.2.2) _ rfl rfl rfl) ?_
      (try simp only [Act.put, lsA, lsB, lsC])
      refine Draws.take 7 (v := ?v4) HS.out rfl (by kernel_rfl) (fun _ _ _ h => h) (Or.inl ⟨rfl, ?h4⟩) ?r4
      case h4 => intro w' hw'; go_simp; (try with_reducible rfl)
      (try simp only [Act.put, lsA, lsB, lsC])
      refine Draws.does 6 rfl (by kernel_rfl) rfl (fun K hK => ?_)
      go_simp
      go_at_call 58
      refine (hlj _).mono ?_
      rintro e u ⟨rfl, hb⟩
      (try dsimp only)
      have hk := HK.out.call hb; clear hb; clear HK; have HK := Lib.hid hk; clear hk
      refine hK.out _ _ (fun _ => ⟨HK.out.rgD 0 rfl, Pf.rgL (p := p) HK.out 3 HF.out rfl, Pf.rgL HK.out 2 HG.out rfl⟩) ?_
      clear hK K
      have hs : (fun u : World => u.rangeAt bd 0 (vals D) ∧ u.rangeAt b1 582 (vals p.L.l) ∧ u.rangeAt b2 582 (vals q.L.l)) u := ⟨HK.out.rgD 0 rfl, Pf.rgL (p := p) HK.out 3 HF.out rfl, Pf.rgL HK.out 2 HG.out rfl⟩
      clear HS
      have HS := Lib.hid hs; clear hs
      (try simp only [Act.put, lsA, lsB, lsC])
      refine Draws.does 8 rfl (by kernel_rfl) rfl (fun K hK => ?_)
      refine wp_store_fr HK.out 3 (infoC HA.out) (vals_all _) rfl _ _ rfl rfl rfl rfl (Fd.leC HF.out HA.out) (Pf.toC HF.out HA.out) ?_
      intro u hk he; clear he; simp only [List.set_cons_zero, List.set_cons_succ] at hk; clear HK; have HK := Lib.hid hk; clear hk
      refine hK.out _ _ (fun _ => ⟨HK.out.rgD 0 rfl, Pf.rgL (p := p.setC D) HK.out 3 (Pf.fullC (p := p) (D := D) HA.out) rfl, Pf.rgL HK.out 2 HG.out rfl⟩) ?_
      clear hK K
      have hs : (fun u : World => u.rangeAt bd 0 (vals D) ∧ u.rangeAt b1 582 (vals p.L.l) ∧ u.rangeAt b2 582 (vals q.L.l)) u := ⟨HK.out.rgD 0 rfl, Pf.rgL (p := p.setC D) HK.out 3 (Pf.fullC (p := p) (D := D) HA.out) rfl, Pf.rgL HK.out 2 HG.out rfl⟩
      clear HS
      have HS := Lib.hid hs; clear hs
      (try simp only [Act.put, lsA, lsB, lsC])
      refine Draws.take 9 (v := ?v5) HS.out rfl (by kernel_rfl) (fun _ _ _ h => h) (Or.inl ⟨rfl, ?h5⟩) ?r5
      case h5 => intro w' hw'; go_simp; (try with_reducible rfl)
      (try simp only [Act.put, lsA, lsB, lsC])
      refine Draws.does 10 rfl (by kernel_rfl) rfl (fun K hK => ?_)
      refine wp_store_f1 HK.out 3 cbH rfl _ _ rfl rfl rfl rfl rfl (Fd.ltH (Pf.fullC (p := p) (D := D) HA.out)) (Pf.toH (Pf.fullC (p := p) (D := D) HA.out) _ _ _) ?_
      intro u hk he; clear he; simp only [List.set_cons_zero, List.set_cons_succ] at hk; clear HK; have HK := Lib.hid hk; clear hk
      refine hK.out _ _ (fun _ => ⟨HK.out.rgD 0 rfl, Pf.rgL (p := (p.setC D).setH R) HK.out 3 (Pf.fullH (Pf.fullC (p := p) (D := D) HA.out) R) rfl, Pf.rgL HK.out 2 HG.out rfl⟩) ?_
      clear hK K
      have hs : (fun u : World => u.rangeAt bd 0 (vals D) ∧ u.rangeAt b1 582 (vals p.L.l) ∧ u.rangeAt b2 582 (vals q.L.l)) u := ⟨HK.out.rgD 0 rfl, Pf.rgL (p := (p.setC D).setH R) HK.out 3 (Pf.fullH (Pf.fullC (p := p) (D := D) HA.out) R) rfl, Pf.rgL HK.out 2 HG.out rfl⟩
      clear HS
      have HS := Lib.hid hs; clear hs
      (try simp only [Act.put, lsA, lsB, lsC])
      refine Draws.take 11 (v := ?v6) HS.out rfl (by kernel_rfl) (fun _ _ _ h => h) (Or.inl ⟨rfl, ?h6⟩) ?r6
      case h6 => intro w' hw'; go_simp; (try with_reducible rfl)
      (try simp only [Act.put, lsA, lsB, lsC])
      refine Draws.does 12 rfl (by kernel_rfl) rfl (fun K hK => ?_)
      refine wp_store_fr HK.out 3 (l_infoF _) (vals_all _) rfl _ _ rfl rfl rfl rfl (Fd.leL (Pf.fullH (Pf.fullC (p := p) (D := D) HA.out) R)) (Pf.toL (Pf.fullH (Pf.fullC (p := p) (D := D) HA.out) R) _) ?_
      intro u hk he; clear he; simp only [List.set_cons_zero, List.set_cons_succ] at hk; clear HK; have HK := Lib.hid hk; clear hk
      refine hK.out _ _ (fun h => absurd h (by decide)) ?_
      clear hK K
      (try simp only [Act.put, lsA, lsB, lsC])
      refine Draws.done (by kernel_rfl) ?_
      clear HS
      go_wp2_with (first
        | (with_reducible refine load_fr HK.out 3 Tryz.underlying43 rfl (Pf.infoF (Pf.fullL (Pf.fullH (Pf.fullC (p := p) (D := D) HA.out) R) M)) _ rfl rfl rfl rfl Pf.all ?_)
        | (with_reducible refine store_fr HK.out 1 (Pf.infoF (Pf.fullL (Pf.fullH (Pf.fullC (p := p) (D := D) HA.out) R) M)) (Fd.one _) rfl rfl _ _ rfl rfl rfl rfl (Fd.leP zP_full (Pf.fullL (Pf.fullH (Pf.fullC (p := p) (D := D) HA.out) R) M)) (Fd.setAllP zP_full (Pf.fullL (Pf.fullH (Pf.fullC (p := p) (D := D) HA.out) R) M)) ?_; intro u hk; simp only [List.set_cons_zero, List.set_cons_succ] at hk; clear HK; have HK := Lib.hid hk; clear hk))
      exact bodyPost_ret (results_f2 rfl Tryz.underlying43 rfl (Pf.infoF (Pf.fullL (Pf.fullH (Pf.fullC (p := p) (D := D) HA.out) R) M)) _ HK.out 1 _ rfl rfl rfl) rfl ⟨A1, c1, rfl, Got.of (HK.out.rowAt 0 rfl) HX.out, HK.out.bel⟩
    · rw [toldP_n _ z2]
      have d2 : (E2 != 0) = true := by simpa using z2
      go_enter Tryz.func25, Tryz.ntmps25
      go_wp2_with (first
        | (with_reducible refine box_f HK.out rfl _ rfl rfl ?_; intro b1 u hk; clear HK; have HK := Lib.hid hk; clear hk; with_reducible refine box_f HK.out rfl _ rfl rfl ?_; intro b2 u hk; clear HK; have HK := Lib.hid hk; clear hk)
        | (with_reducible refine alloc_f HK.out f_zeroP rfl rfl ?_; intro br u hk; clear HK; have HK := Lib.hid hk; clear hk))
      refine Draws.start (S := fun u => KeepF w [(br, 43, (zP.fd none 0).cells), (b2, 43, (q.fd B d).cells), (b1, 43, (p.fd A c).cells)] [(A, p.hs.length, p.hs), (B, q.hs.length, q.hs)] u) (n := 5) 5 rfl (by kernel_rfl) ?_
      have hk := HK.out.drew
      clear HK; have HK := Lib.hid hk; clear hk
      have HS := Lib.hid (show (fun u => KeepF w [(br, 43, (zP.fd none 0).cells), (b2, 43, (q.fd B d).cells), (b1, 43, (p.fd A c).cells)] [(A, p.hs.length, p.hs), (B, q.hs.length, q.hs)] u) _ from HK.out)
      refine Draws.take 0 HS.out rfl (by kernel_rfl) (fun _ _ _ h => h) (yield_fr (fun _ h => h) 2 Tryz.underlying43 rfl (Pf.infoF HF.out) _ rfl rfl rfl rfl Pf.all) ?_
      (try simp only [Act.put, lsA, lsB, lsC])
      refine Draws.take 2 HS.out rfl (by kernel_rfl) (fun _ _ _ h => h) (yield_fr (fun _ h => h) 1 Tryz.underlying43 rfl (Pf.infoF HG.out) _ rfl rfl rfl rfl Pf.all) ?_
      (try simp only [Act.put, lsA, lsB, lsC])
      refine Draws.does 1 rfl (by kernel_rfl) rfl (fun K hK => ?_)
      go_simp
      go_at_call 55
      refine (hh1 _).mono ?_
      rintro e u ⟨rfl, hb⟩
      (try dsimp only)
      have hk := HK.out.call hb; clear hb; clear HK; have HK := Lib.hid hk; clear hk
      refine hK.out _ _ (fun _ => HK.out) ?_
      clear hK K
      have hs : (fun u => KeepF w [(br, 43, (zP.fd none 0).cells), (b2, 43, (q.fd B d).cells), (b1, 43, (p.fd A c).cells)] [(A, p.hs.length, p.hs), (B, q.hs.length, q.hs)] u) u := HK.out
      clear HS
      have HS := Lib.hid hs; clear hs
      (try simp only [Act.put, lsA, lsB, lsC])
      refine Draws.does 3 rfl (by kernel_rfl) rfl (fun K hK => ?_)
      go_simp
      go_at_call 55
      refine (hh2 _).mono ?_
      rintro e u ⟨rfl, hb⟩
      (try dsimp only)
      have hk := HK.out.call hb; clear hb; clear HK; have HK := Lib.hid hk; clear hk
      refine hK.out _ _ (fun _ => HK.out) ?_
      clear hK K
      have hs : (fun u => KeepF w [(br, 43, (zP.fd none 0).cells), (b2, 43, (q.fd B d).cells), (b1, 43, (p.fd A c).cells)] [(A, p.hs.length, p.hs), (B, q.hs.length, q.hs)] u) u := HK.out
      clear HS
      have HS := Lib.hid hs; clear hs
      (try simp only [Act.put, lsA, lsB, lsC])
      refine Draws.take 4 HS.out rfl (by kernel_rfl) (fun _ _ _ h => h) (yield_neqv hd_guard (eql_hd p) _ _ _ rfl rfl rfl rfl) ?_
      (try simp only [Act.put, lsA, lsB, lsC])
      refine Draws.done (by kernel_rfl) ?_
      clear HS
      go_wp2_with (first
        | (with_reducible refine load_fr HK.out 2 Tryz.underlying38 rfl (Pf.infoC HF.out) _ rfl rfl rfl rfl Pf.cC ?_)
        | (with_reducible refine load_fr HK.out 1 Tryz.underlying38 rfl (Pf.infoC HG.out) _ rfl rfl rfl rfl Pf.cC ?_)
        | (go_at_call 56; (with_reducible refine (hcj _).mono ?_); rintro e u ⟨rfl, hb⟩; have hk := HK.out.call hb; clear hb; clear HK; have HK := Lib.hid hk; clear hk)
        | (with_reducible refine alloc_f HK.out c_zeroF rfl rfl ?_; intro bd u hk; clear HK; have HK := Lib.hid hk; clear hk)
        | (with_reducible refine store_fr HK.out 0 (infoC HA.out) (vals_all _) rfl rfl _ _ rfl rfl rfl rfl (putC_le (zer_length 579) HA.out) (putC ((zer_length 579).trans HA.out.symm)) ?_; intro u hk; simp only [List.set_cons_zero] at hk; clear HK; have HK := Lib.hid hk; clear hk)
        | (with_reducible refine load_f1 HK.out 3 cbH _ rfl rfl rfl rfl (Pf.cH HF.out) ?_)
        | (with_reducible refine load_f1 HK.out 2 cbH _ rfl rfl rfl rfl (Pf.cH HG.out) ?_)
        | (go_at_call 57; (with_reducible refine (hhj _ (HK.out.rowAt 0 rfl) (HK.out.rowAt 1 rfl)).mono ?_); rintro e u ⟨A1, c1, rfl, ho, hb⟩; have HX := Lib.hid ((Fresh.own ho).mono HK.out.bel.size); have hk := HK.out.own hb ho HLE.out; clear ho hb; clear HK; have HK := Lib.hid hk; clear hk)
        | (with_reducible refine build_f f_buildP rfl rfl ?_)
        | (with_reducible refine store_fr HK.out 1 (Pf.infoF zP_full) (Fd.one _) rfl rfl _ _ rfl rfl rfl rfl (Fd.leP zP_full zP_full) (Fd.setAllP zP_full zP_full) ?_; intro u hk; simp only [List.set_cons_zero, List.set_cons_succ] at hk; clear HK; have HK := Lib.hid hk; clear hk))
      exact bodyPost_ret (results_f2 rfl Tryz.underlying43 rfl (Pf.infoF zP_full) _ HK.out 1 _ rfl rfl rfl) rfl ⟨none, 0, rfl, Got.nil _ _ _ _ _ _, HK.out.bel⟩
  · rw [if_neg z1, toldP_n _ z1]
    have d1 : (E1 != 0) = true := by simpa using z1
    go_enter Tryz.func25, Tryz.ntmps25
    go_wp2_with (first
      | (with_reducible refine box_f HK.out rfl _ rfl rfl ?_; intro b1 u hk; clear HK; have HK := Lib.hid hk; clear hk; with_reducible refine box_f HK.out rfl _ rfl rfl ?_; intro b2 u hk; clear HK; have HK := Lib.hid hk; clear hk)
      | (with_reducible refine alloc_f HK.out f_zeroP rfl rfl ?_; intro br u hk; clear HK; have HK := Lib.hid hk; clear hk))
    refine Draws.start (S := fun u => KeepF w [(br, 43, (zP.fd none 0).cells), (b2, 43, (q.fd B d).cells), (b1, 43, (p.fd A c).cells)] [(A, p.hs.length, p.hs), (B, q.hs.length, q.hs)] u) (n := 5) 5 rfl (by kernel_rfl) ?_
    have hk := HK.out.drew
    clear HK; have HK := Lib.hid hk; clear hk
    have HS := Lib.hid (show (fun u => KeepF w [(br, 43, (zP.fd none 0).cells), (b2, 43, (q.fd B d).cells), (b1, 43, (p.fd A c).cells)] [(A, p.hs.length, p.hs), (B, q.hs.length, q.hs)] u) _ from HK.out)
    refine Draws.take 0 HS.out rfl (by kernel_rfl) (fun _ _ _ h => h) (yield_fr (fun _ h => h) 2 Tryz.underlying43 rfl (Pf.infoF HF.out) _ rfl rfl rfl rfl Pf.all) ?_
    (try simp only [Act.put, lsA, lsB, lsC])
    refine Draws.take 2 HS.out rfl (by kernel_rfl) (fun _ _ _ h => h) (yield_fr (fun _ h => h) 1 Tryz.underlying43 rfl (Pf.infoF HG.out) _ rfl rfl rfl rfl Pf.all) ?_
    (try simp only [Act.put, lsA, lsB, lsC])
    refine Draws.does 1 rfl (by kernel_rfl) rfl (fun K hK => ?_)
    go_simp
    go_at_call 55
    refine (hh1 _).mono ?_
    rintro e u ⟨rfl, hb⟩
    (try dsimp only)
    have hk := HK.out.call hb; clear hb; clear HK; have HK := Lib.hid hk; clear hk
    refine hK.out _ _ (fun _ => HK.out) ?_
    clear hK K
    have hs : (fun u => KeepF w [(br, 43, (zP.fd none 0).cells), (b2, 43, (q.fd B d).cells), (b1, 43, (p.fd A c).cells)] [(A, p.hs.length, p.hs), (B, q.hs.length, q.hs)] u) u := HK.out
    clear HS
    have HS := Lib.hid hs; clear hs
    (try simp only [Act.put, lsA, lsB, lsC])
    refine Draws.does 3 rfl (by kernel_rfl) rfl (fun K hK => ?_)
    go_simp
    go_at_call 55
    refine (hh2 _).mono ?_
    rintro e u ⟨rfl, hb⟩
    (try dsimp only)
    have hk := HK.out.call hb; clear hb; clear HK; have HK := Lib.hid hk; clear hk
    refine hK.out _ _ (fun _ => HK.out) ?_
    clear hK K
    have hs : (fun u => KeepF w [(br, 43, (zP.fd none 0).cells), (b2, 43, (q.fd B d).cells), (b1, 43, (p.fd A c).cells)] [(A, p.hs.length, p.hs), (B, q.hs.length, q.hs)] u) u := HK.out
    clear HS
    have HS := Lib.hid hs; clear hs
    (try simp only [Act.put, lsA, lsB, lsC])
    refine Draws.take 4 HS.out rfl (by kernel_rfl) (fun _ _ _ h => h) (yield_neqv hd_guard (eql_hd p) _ _ _ rfl rfl rfl rfl) ?_
    (try simp only [Act.put, lsA, lsB, lsC])
    refine Draws.done (by kernel_rfl) ?_
    clear HS
    go_wp2_with (first
      | (with_reducible refine load_fr HK.out 2 Tryz.underlying38 rfl (Pf.infoC HF.out) _ rfl rfl rfl rfl Pf.cC ?_)
      | (with_reducible refine load_fr HK.out 1 Tryz.underlying38 rfl (Pf.infoC HG.out) _ rfl rfl rfl rfl Pf.cC ?_)
      | (go_at_call 56; (with_reducible refine (hcj _).mono ?_); rintro e u ⟨rfl, hb⟩; have hk := HK.out.call hb; clear hb; clear HK; have HK := Lib.hid hk; clear hk)
      | (with_reducible refine alloc_f HK.out c_zeroF rfl rfl ?_; intro bd u hk; clear HK; have HK := Lib.hid hk; clear hk)
      | (with_reducible refine store_fr HK.out 0 (infoC HA.out) (vals_all _) rfl rfl _ _ rfl rfl rfl rfl (putC_le (zer_length 579) HA.out) (putC ((zer_length 579).trans HA.out.symm)) ?_; intro u hk; simp only [List.set_cons_zero] at hk; clear HK; have HK := Lib.hid hk; clear hk)
      | (with_reducible refine build_f f_buildP rfl rfl ?_)
      | (with_reducible refine store_fr HK.out 1 (Pf.infoF zP_full) (Fd.one _) rfl rfl _ _ rfl rfl rfl rfl (Fd.leP zP_full zP_full) (Fd.setAllP zP_full zP_full) ?_; intro u hk; simp only [List.set_cons_zero, List.set_cons_succ] at hk; clear HK; have HK := Lib.hid hk; clear hk))
    exact bodyPost_ret (results_f2 rfl Tryz.underlying43 rfl (Pf.infoF zP_full) _ HK.out 1 _ rfl rfl rfl) rfl ⟨none, 0, rfl, Got.nil _ _ _ _ _ _, HK.out.bel⟩

theorem joinL_me (xs : List Int) : joinL xs xs = xs := by
  unfold joinL
  rw [List.zipWith_self]
  conv => rhs; rw [← List.map_id xs]
  exact List.map_congr_left fun z _ => by simp
theorem splice_seg {C : List Int} {o n : Nat} (h : o + n ≤ C.length) : splice C o (seg C o n) = C := by
  have hl : (seg C o n).length = n := seg_length h
  refine ext_get (by rw [splice_length]) fun k _ => ?_
  rw [splice_get _ _ _ _ (by omega), hl]
  split
  · rename_i h1
    rw [seg_get (by omega)]
    congr 1; omega
  · rfl
theorem cjC_me {C : List Int} (h : C.length = 579) : cjC C C = C := by
  rw [cjC, joinL_me, joinL_me, dnR, splice_seg (by omega), upR, splice_seg (by omega)]
theorem join_me {p : Pf} (h : p.full) : (joinPE p p = 0 ∧ joinP p p = p) ∨ (joinPE p p = 1 ∧ joinP p p = zP ∧ rightP p = false) := by
  have h1 : headB p p = true := by simp [headB]
  have h2 : sameB p.C p.C = true := by simp [sameB]
  have h3 := cj_yes h2
  have e : joinPE p p = joinE p.hs p.hs := by rw [joinPE, if_pos h1, if_pos h3.1]
  cases hr : rightsL p.hs with
  | true =>
    obtain ⟨g1, g2⟩ := join_self hr
    refine .inl ⟨e.trans g1, ?_⟩
    rw [joinP, e, g1, toldP_0, h3.2, cjC_me h, joinK_self, g2]
  | false =>
    have g1 := join_self_not hr
    refine .inr ⟨e.trans g1, ?_, ?_⟩
    · rw [joinP, e, g1]; exact toldP_n _ (by decide)
    · rw [← Bool.not_eq_true]
      intro hp
      rcases (right_parts hp).2.2 with ⟨_, _, g2, _⟩ | ⟨_, _, g2, _⟩
      · rw [hr] at g2; cases g2
      · rw [g2] at hr; exact absurd hr (by decide)
theorem jn_ok (p : Pf) (hp : p.full) (h : joinPE p p = 0 ∧ joinP p p = p) (A : Option Addr) (c : Nat) (w : World) (hd : Row w A p.hs.length p.hs) :
    Calls Tryz.prog 25 #[.agg (p.fd A c).cells.toArray, .agg (p.fd A c).cells.toArray] w fun e w' => ∃ A1 c1, e = .returned (.tuple #[.agg (p.fd A1 c1).cells.toArray, .int .i64 0]) ∧ Got w A p.hs.length w' A1 c1 p.hs ∧ Below w.heap.size w w' := by
  have := fjoin_any p p hp hp rfl rfl rfl A A c c w hd hd
  rwa [h.1, h.2] at this
theorem jn_no (p : Pf) (hp : p.full) (h : joinPE p p = 1 ∧ joinP p p = zP) (A : Option Addr) (c : Nat) (w : World) (hd : Row w A p.hs.length p.hs) :
    Calls Tryz.prog 25 #[.agg (p.fd A c).cells.toArray, .agg (p.fd A c).cells.toArray] w fun e w' => ∃ A1 c1, e = .returned (.tuple #[.agg (zP.fd A1 c1).cells.toArray, .int .i64 1]) ∧ Below w.heap.size w w' := by
  have := fjoin_any p p hp hp rfl rfl rfl A A c c w hd hd
  rw [h.1, h.2] at this
  exact this.mono fun e u ⟨A1, c1, he, _, hb⟩ => ⟨A1, c1, he, hb⟩
/-- Holds that a join made, or left where they came in. -/
theorem Kg.gotAdd {w u u' : World} {own ro : List Th} (h : Kg w (fun _ => False) own ro u) (hb : Below u.heap.size u u') {A A1 : Option Addr} {n c1 : Nat} {hs : List Ho} (hg : Got u A n u' A1 c1 hs) (hd : Row w A n hs) : Kg w (fun _ => False) own (Th.hr A1 hs :: ro) u' :=
  (h.call hb).also (t := Th.hr A1 hs) hg.row (fun e he k hk hc => by
    obtain ⟨h0, a, ha, rfl⟩ := hk
    rcases hg.new a ha (by omega) with h1 | ⟨h1, h2⟩
    · have := e.lt (h.all e he) hc
      omega
    · rw [h1] at ha
      have h3 := hd.lt ha (by have := hd.1; omega)
      rcases h.cov e he _ hc with h4 | h4
      · exact h4
      · omega)
set_option maxHeartbeats 2000000 in
theorem same13_any (A B : Option Addr) (n c d : Nat) (qs rs : List Q) (hn : n ≤ 1000) (hq : pfs qs = pfs rs) (w : World) (hd : FR w A n qs) (he : FR w B n rs) :
    Calls Tryz.prog 26 #[.slice A n c, .slice B n d] w fun e w' => e = .returned (.bool true) ∧ Below w.heap.size w w' := by
  have HD := Lib.hid hd
  have HE := Lib.hid he
  have HQ := Lib.hid hq
  clear hd he hq
  have HK := Lib.hid (Kg.start w)
  go_enter Tryz.func26, Tryz.ntmps26
  go_wp2
  go_loopw [13] (fun i wr => ∃ m : Nat, m ≤ n ∧ i = .int .i64 m ∧ Kg w (fun _ => False) [] [] wr) (fun i _ => n - (intOf i).toNat)
  case atStart => exact ⟨0, by omega, rfl, HK.out⟩
  case round =>
    obtain ⟨m, hm, rfl, hk⟩ := hrel
    clear HK; have HK := Lib.hid hk; clear hk
    by_cases hlt : m < n
    · obtain ⟨x, hx⟩ := HD.out.get hlt
      obtain ⟨y, hy⟩ := HE.out.get hlt
      have hxy : y.1 = x.1 := by
        have h1 := pfs_at hx
        rw [HQ.out, pfs_at hy] at h1
        injection h1
      obtain ⟨b1, off1, rfl⟩ := HD.out.ptr hx
      obtain ⟨b2, off2, rfl⟩ := HE.out.ptr hy
      have HF := Lib.hid (HD.out.full hx)
      have HX := Lib.hid (HD.out.rng hx)
      have HXR := Lib.hid (HD.out.row hx)
      have HY := Lib.hid (show w.rangeAt b2 (off2 + m * 587) (x.1.fd y.2.1 y.2.2).cells by rw [← hxy]; exact HE.out.rng hy)
      have HYR := Lib.hid (show Row w y.2.1 x.1.hs.length x.1.hs by rw [← hxy]; exact HE.out.row hy)
      have i1 : (0 : Int) ≤ (m : Int) := by omega
      have i2 : (m : Int) < (n : Int) := by omega
      clear hx hy hxy
      go_wp2
      refine Draws.start (S := fun u => Kg w (fun _ => False) [] [] u) (n := 10) 10 rfl (by kernel_rfl) ?_
      have HS := Lib.hid (show (fun u => Kg w (fun _ => False) [] [] u) (World.drew _) from HK.out.drew)
      refine Draws.take 0 (v := ?v1) HS.out rfl (by kernel_rfl) (fun _ _ _ h => h) (Or.inl ⟨rfl, ?h1⟩) ?r1
      case h1 => intro w' hw'; go_simp; (try with_reducible rfl)
      (try simp only [Act.put, lsA, lsB, lsC])
      refine Draws.take 1 (v := ?v2) HS.out rfl (by kernel_rfl) (fun _ _ _ h => h) (Or.inl ⟨rfl, ?h2⟩) ?r2
      case h2 => intro w' hw'; go_simp; (try with_reducible rfl)
      (try simp only [Act.put, lsA, lsB, lsC])
      refine Draws.take 2 (v := ?v3) HS.out rfl (by kernel_rfl) (fun _ _ _ h => h) (Or.inl ⟨rfl, ?h3⟩) ?r3
      case h3 => intro w' hw'; go_simp; (try with_reducible rfl)
      (try simp only [Act.put, lsA, lsB, lsC])
      refine Draws.take 3 HS.out rfl (by kernel_rfl) (fun _ _ _ h => h) (yield_kr Tryz.underlying43 rfl (Pf.infoF HF.out) (fun _ h => rng_below HX.out h.mf.bel) _ rfl rfl rfl) ?_
      (try simp only [Act.put, lsA, lsB, lsC])
      refine Draws.take 4 (v := ?v4) HS.out rfl (by kernel_rfl) (fun _ _ _ h => h) (Or.inl ⟨rfl, ?h4⟩) ?r4
      case h4 => intro w' hw'; go_simp; (try with_reducible rfl)
      (try simp only [Act.put, lsA, lsB, lsC])
      refine Draws.take 5 (v := ?v5) HS.out rfl (by kernel_rfl) (fun _ _ _ h => h) (Or.inl ⟨rfl, ?h5⟩) ?r5
      case h5 => intro w' hw'; go_simp; (try with_reducible rfl)
      (try simp only [Act.put, lsA, lsB, lsC])
      refine Draws.take 6 (v := ?v6) HS.out rfl (by kernel_rfl) (fun _ _ _ h => h) (Or.inl ⟨rfl, ?h6⟩) ?r6
      case h6 => intro w' hw'; go_simp; (try with_reducible rfl)
      (try simp only [Act.put, lsA, lsB, lsC])
      refine Draws.take 7 HS.out rfl (by kernel_rfl) (fun _ _ _ h => h) (yield_kr Tryz.underlying43 rfl (Pf.infoF HF.out) (fun _ h => rng_below HY.out h.mf.bel) _ rfl rfl rfl) ?_
      (try simp only [Act.put, lsA, lsB, lsC])
      refine Draws.does 8 rfl (by kernel_rfl) rfl (fun K' hK => ?_)
      go_simp
      go_at_call 22
      refine (rsame_any x.1 HF.out _ _ _ _ _ (HXR.out.below HS.out.mf.bel (Nat.le_refl _)) (HYR.out.below HS.out.mf.bel (Nat.le_refl _))).mono ?_
      rintro e u ⟨rfl, hb⟩
      (try dsimp only)
      have hk := HS.out.call hb; clear hb
      clear HS; have HS := Lib.hid (show (fun u => Kg w (fun _ => False) [] [] u) _ from hk); clear hk
      refine hK.out _ _ (fun _ => HS.out) ?_
      clear hK K'
      (try simp only [Act.put, lsA, lsB, lsC])
      refine Draws.take 9 (v := ?v7) HS.out rfl (by kernel_rfl) (fun _ _ _ h => h) (Or.inl ⟨rfl, ?h7⟩) ?r7
      case h7 => intro w' hw'; go_simp; (try with_reducible rfl)
      (try simp only [Act.put, lsA, lsB, lsC])
      refine Draws.done (by kernel_rfl) ?_
      clear HK; have HK := Lib.hid (show (fun u => Kg w (fun _ => False) [] [] u) _ from HS.out); clear HS
      go_wp2
      go_roundw
      case rel => exact ⟨m + 1, by omega, by go_num, HK.out⟩
      case measure => simp [intOf]; omega
    · obtain rfl : m = n := by omega
      go_wp2
      go_ret
      exact ⟨rfl, HK.out.mf.bel⟩
theorem same13_two (A B : Option Addr) (n m c d : Nat) (qs rs : List Q) (hn : n ≤ 1000) (hq : pfs qs = pfs rs) (w : World) (hd : FR w A n qs) (he : FR w B m rs) :
    Calls Tryz.prog 26 #[.slice A n c, .slice B m d] w fun e w' => e = .returned (.bool true) ∧ Below w.heap.size w w' := by
  have h : n = m := by rw [← hd.1, ← he.1, ← pfs_len, hq, pfs_len]
  subst h
  exact same13_any A B n c d qs rs hn hq w hd he

end Go.Proofs.YtgblnlpfgdbnnaaGreat
