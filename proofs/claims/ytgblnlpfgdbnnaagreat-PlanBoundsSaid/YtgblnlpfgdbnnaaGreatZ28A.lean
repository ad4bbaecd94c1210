/- Fields that are copied, picked and asked: own, parts, ContainsFunc at fields and holds. -/
import Derived.Test.YtgblnlpfgdbnnaaGreatZ25A
namespace Go.Proofs.YtgblnlpfgdbnnaaGreat
set_option maxRecDepth 100000
open Go.ChangeShapes Go.WideShapes Go.ChangeAt Go.RowKit

theorem f_info4 : (Tryz.prog.info? 43).map (fun i => (i.zero, i.size, i.bytes)) = some (some (.agg (zP.fd none 0).cells.toArray), 587, 4720) := by kernel_rfl
theorem f_zsize : (Value.agg (zP.fd none 0).cells.toArray).cells.size = 587 := by
  rw [show (Value.agg (zP.fd none 0).cells.toArray).cells = (zP.fd none 0).cells.toArray from rfl, List.size_toArray]
  exact Pf.len zP_full
theorem fd_ones {p : Pf} {A : Option Addr} {c : Nat} : ∀ y ∈ (p.fd A c).cells, y.oneCell' = true := fun y hy => by
  have h := Fd.one (p.fd A c)
  rw [Array.all_eq_true'] at h
  exact h y (by simpa using hy)
theorem of_push (v : Value) (qs : List Q) (x : Q) : Th.og 43 587 v (qs.length + 1) (fcs qs ++ (x.1.fd x.2.1 x.2.2).cells) = Th.of v (qs ++ [x]) := by
  have e1 : fcs (qs ++ [x]) = fcs qs ++ (x.1.fd x.2.1 x.2.2).cells := by simp [fcs, Q.cells]
  have e2 : (qs ++ [x]).length = qs.length + 1 := by simp
  show _ = Th.og _ _ _ _ _
  rw [e1, e2]
theorem Kg.hqNil {w u : World} {F : Nat → Prop} {own ro : List Th} (h : Kg w F own ro u) : Kg w F own (Th.hq [] :: ro) u :=
  h.also (t := Th.hq []) (fun x hx => by cases hx) (fun e he k hk => by obtain ⟨x, hx, _⟩ := hk; cases hx)
/-- What own and parts hold in their loops. -/
structure OL (w : World) (v : Value) (qs : List Q) (u : World) : Prop where
  kg : Kg w (fun _ => False) [Th.of v qs] [Th.hq qs] u
  full : ∀ x ∈ qs, x.1.full
  new : ∀ k, (Th.hq qs).foot k → w.heap.size ≤ k
theorem OL.nil (w : World) : OF w (.slice none 0 0) [] w :=
  ⟨(Kg.start w).hqNil.add (t := Th.of (.slice none 0 0) []) (Below.refl _ _) (og_nil _ _ _) (fun k hk => by cases hk), by simp, fun k hk => by obtain ⟨x, hx, _⟩ := hk; cases hx⟩
theorem OF.more {w u : World} {v v' : Value} {qs : List Q} (h : OF w v qs u) {u' : World} {p : Pf} {A : Option Addr} {c : Nat} (hp : p.full) (hk : Kg w (fun _ => False) [Th.of v' (qs ++ [(p, A, c)])] (Th.hr A p.hs :: Th.hq qs :: []) u') (hn : ∀ k, (Th.hr A p.hs).foot k → w.heap.size ≤ k) : OF w v' (qs ++ [(p, A, c)]) u' :=
  ⟨hk.hqMore rfl, fun x hx => by
    rcases List.mem_append.1 hx with hx | hx
    · exact h.full x hx
    · obtain rfl := List.mem_singleton.1 hx; exact hp, fun k hk' => by
    obtain ⟨x, hx, hr⟩ := hk'
    rcases List.mem_append.1 hx with hx | hx
    · exact h.new k ⟨x, hx, hr⟩
    · obtain rfl := List.mem_singleton.1 hx; exact hn k hr⟩
theorem pfs_take {qs : List Q} {m : Nat} {x : Q} (hx : qs[m]? = some x) : (pfs qs).take (m + 1) = (pfs qs).take m ++ [x.1] := by
  rw [List.take_add_one, pfs_at hx]; rfl
theorem pfs_app (qs : List Q) (x : Q) : pfs (qs ++ [x]) = pfs qs ++ [x.1] := by simp
theorem cl1_any (p : Pl) (x : Pf) (A : Option Addr) (c bp : Nat) (w : World) (hP : w.rangeAt bp 0 p.cells) :
    Calls Tryz.prog 43 #[.agg (x.fd A c).cells.toArray, .pointer (some ⟨bp, 0, none⟩)] w fun e w' => e = .returned (.bool (touchB p x.nm)) ∧ Below w.heap.size w w' := by
  have HK := Lib.hid (Kg.start w)
  have HP := Lib.hid hP; clear hP
  go_enter Tryz.func43, Tryz.ntmps43
  go_wp2_with (first
    | ((with_reducible refine box_k (cs := (x.fd A c).cells) HK.out rfl _ rfl rfl ?_); intro b2 u hk; clear HK; have HK := Lib.hid hk; clear hk)
    | (with_reducible refine load_kg (xs := p.cells) Tryz.underlying24 rfl p_info _ rfl (rng_below HP.out HK.out.mf.bel) rfl rfl ?_)
    | (with_reducible refine load_k1 HK.out 0 ckS _ rfl rfl rfl rfl Pf.cn ?_)
    | (go_at_call 13; (with_reducible refine (touched_any _ _ _).mono ?_); rintro e u ⟨rfl, hb⟩; have hk := HK.out.call hb; clear hb; clear HK; have HK := Lib.hid hk; clear hk))
  go_ret
  exact ⟨rfl, HK.out.mf.bel⟩
theorem cl2_any (p : Pl) (x : Pf) (A : Option Addr) (c bp : Nat) (w : World) (hP : w.rangeAt bp 0 p.cells) :
    Calls Tryz.prog 51 #[.agg (x.fd A c).cells.toArray, .pointer (some ⟨bp, 0, none⟩)] w fun e w' => e = .returned (.bool (touchB p x.nm)) ∧ Below w.heap.size w w' := by
  have HK := Lib.hid (Kg.start w)
  have HP := Lib.hid hP; clear hP
  go_enter Tryz.func51, Tryz.ntmps51
  go_wp2_with (first
    | ((with_reducible refine box_k (cs := (x.fd A c).cells) HK.out rfl _ rfl rfl ?_); intro b2 u hk; clear HK; have HK := Lib.hid hk; clear hk)
    | (with_reducible refine load_kg (xs := p.cells) Tryz.underlying24 rfl p_info _ rfl (rng_below HP.out HK.out.mf.bel) rfl rfl ?_)
    | (with_reducible refine load_k1 HK.out 0 ckS _ rfl rfl rfl rfl Pf.cn ?_)
    | (go_at_call 13; (with_reducible refine (touched_any _ _ _).mono ?_); rintro e u ⟨rfl, hb⟩; have hk := HK.out.call hb; clear hb; clear HK; have HK := Lib.hid hk; clear hk))
  go_ret
  exact ⟨rfl, HK.out.mf.bel⟩
theorem cl3_any (p : Pl) (x : Pf) (A : Option Addr) (c bp : Nat) (w : World) (hP : w.rangeAt bp 0 p.cells) :
    Calls Tryz.prog 52 #[.agg (x.fd A c).cells.toArray, .pointer (some ⟨bp, 0, none⟩)] w fun e w' => e = .returned (.bool (!(touchB p x.nm))) ∧ Below w.heap.size w w' := by
  have HK := Lib.hid (Kg.start w)
  have HP := Lib.hid hP; clear hP
  go_enter Tryz.func52, Tryz.ntmps52
  go_wp2_with (first
    | ((with_reducible refine box_k (cs := (x.fd A c).cells) HK.out rfl _ rfl rfl ?_); intro b2 u hk; clear HK; have HK := Lib.hid hk; clear hk)
    | (with_reducible refine load_kg (xs := p.cells) Tryz.underlying24 rfl p_info _ rfl (rng_below HP.out HK.out.mf.bel) rfl rfl ?_)
    | (with_reducible refine load_k1 HK.out 0 ckS _ rfl rfl rfl rfl Pf.cn ?_)
    | (go_at_call 13; (with_reducible refine (touched_any _ _ _).mono ?_); rintro e u ⟨rfl, hb⟩; have hk := HK.out.call hb; clear hb; clear HK; have HK := Lib.hid hk; clear hk))
  go_ret
  exact ⟨rfl, HK.out.mf.bel⟩
set_option maxHeartbeats 2000000 in
theorem parts1_any (p : Pl) (bp : Nat) (A : Option Addr) (n c : Nat) (qs : List Q) (hn : n ≤ 1000) (w : World) (hP : w.rangeAt bp 0 p.cells) (hd : FR w A n qs) :
    Calls Tryz.prog 42 #[.slice A n c, .func (.func 43) #[] #[.pointer (some ⟨bp, 0, none⟩)]] w fun e w' => ∃ v qs', e = .returned v ∧ OF w v qs' w' ∧ pfs qs' = (pfs qs).filter (fun y => touchB p y.nm) := by
  have HD := Lib.hid hd
  have HP := Lib.hid hP; clear hP
  have HPL := Lib.hid (show (pfs qs).length = n by rw [pfs_len]; exact hd.1)
  clear hd
  have HO := Lib.hid (OL.nil w)
  go_enter Tryz.func42, Tryz.ntmps42
  go_wp2
  go_loopw [5, 10] (fun v i wr => ∃ (m : Nat) (qs' : List Q), m ≤ n ∧ i = .int .i64 m ∧ pfs qs' = ((pfs qs).take m).filter (fun y => touchB p y.nm) ∧ OF w v qs' wr) (fun _ i _ => n - (intOf i).toNat)
  case atStart => exact ⟨0, [], by omega, rfl, by simp, HO.out⟩
  case round =>
    obtain ⟨m, qs', hm, rfl, hq, ho⟩ := hrel
    have HQ := Lib.hid hq
    have HLE := Lib.hid (show qs'.length ≤ 1000 by
      rw [← pfs_len, hq]
      refine Nat.le_trans (List.length_filter_le _ _) ?_
      rw [List.length_take]; omega)
    clear hq
    clear HO; have HO := Lib.hid ho; clear ho
    have HK := Lib.hid HO.out.kg
    by_cases hlt : m < n
    · obtain ⟨x, hx⟩ := HD.out.get hlt
      obtain ⟨b, off, rfl, hr⟩ := HD.out.base (by omega)
      have HM := Lib.hid hlt
      have HX := Lib.hid hx
      have HF := Lib.hid (HD.out.full hx)
      have HR := Lib.hid (hr m x hx)
      have HRW := Lib.hid (HD.out.row hx)
      have i1 : (0 : Int) ≤ (m : Int) := by omega
      have i2 : (m : Int) < (n : Int) := by omega
      have hcl := fun w h => cl1_any p x.1 x.2.1 x.2.2 bp w h
      clear hr hx
      cases ht : (touchB p x.1.nm) with
      | true =>
        rw [ht] at hcl
        have HT := Lib.hid ht; clear ht
        go_wp2_with (first
          | (with_reducible refine load_kg Tryz.underlying43 rfl (Pf.infoF HF.out) _ rfl (rng_below HR.out HK.out.mf.bel) rfl rfl ?_)
          | ((with_reducible refine alloc_k HK.out f_zeroP rfl rfl ?_); intro b4 u hk; clear HK; have HK := Lib.hid hk; clear hk)
          | ((with_reducible refine store_kr HK.out 0 (Pf.infoF HF.out) (Fd.one _) rfl rfl _ _ rfl rfl rfl rfl (Fd.leP zP_full HF.out) (Fd.setAllP zP_full HF.out) ?_); intro u hk; simp only [List.set_cons_zero] at hk; clear HK; have HK := Lib.hid hk; clear hk)
          | (with_reducible refine load_kr HK.out 0 Tryz.underlying43 rfl (Pf.infoF HF.out) _ rfl rfl rfl rfl Pf.all ?_)
          | (go_at_call 43; (with_reducible refine (hcl _ (rng_below HP.out HK.out.mf.bel)).mono ?_); rintro e u ⟨rfl, hb⟩; have hk := HK.out.call hb; clear hb; clear HK; have HK := Lib.hid hk; clear hk)
          | (with_reducible refine load_k1 HK.out 0 ckH _ rfl rfl rfl rfl (Pf.cH HF.out) ?_)
          | ((with_reducible refine app_k HK.out rfl _ _ rfl rfl rfl (HRW.out.below HK.out.mf.bel (Nat.le_refl _)) ?_); intro A1 c1 u hk hnew hsz; have HN := Lib.hid (fun k hk => Nat.le_trans HK.out.mf.bel.size (hnew k hk)); clear hnew hsz; clear HK; have HK := Lib.hid hk; clear hk)
          | ((refine store_k1 HK.out 0 ckH rfl rfl _ _ rfl rfl rfl rfl rfl (Fd.ltH HF.out) (Pf.toH HF.out A1 c1 x.1.hs) ?_); intro u hk; simp only [List.set_cons_zero] at hk; rw [Pf.setH_self] at hk; clear HK; have HK := Lib.hid hk; clear hk)
          | ((with_reducible refine buildF_k HK.out rfl _ rfl (Pf.len HF.out) rfl ?_); intro b5 u hk; clear HK; have HK := Lib.hid hk; clear hk)
          | ((refine push_k HK.out 2 0 f_info4 f_zsize (by decide) (by decide) Tryz.underlying22 rfl rfl (Pf.len HF.out) fd_ones rfl _ _ rfl rfl rfl HLE.out ?_); intro v' u hk; simp only [List.set_cons_zero, List.set_cons_succ] at hk; clear HK; have HK := Lib.hid hk; clear hk))
        have hk := HK.out.tail.tail
        rw [of_push v' qs' (x.1, A1, c1)] at hk
        have HO2 := Lib.hid (HO.out.more HF.out hk HN.out)
        clear hk
        go_roundw
        case rel => exact ⟨m + 1, _, by have := HM.out; omega, by go_num, by
          rw [pfs_app, HQ.out, pfs_take HX.out, List.filter_append]
          simp only [List.filter_cons, HT.out, if_true, List.filter_nil], HO2.out⟩
        case measure => have := HM.out; simp [intOf]; omega
      | false =>
        rw [ht] at hcl
        have HT := Lib.hid ht; clear ht
        go_wp2_with (first
          | (with_reducible refine load_kg Tryz.underlying43 rfl (Pf.infoF HF.out) _ rfl (rng_below HR.out HK.out.mf.bel) rfl rfl ?_)
          | ((with_reducible refine alloc_k HK.out f_zeroP rfl rfl ?_); intro b4 u hk; clear HK; have HK := Lib.hid hk; clear hk)
          | ((with_reducible refine store_kr HK.out 0 (Pf.infoF HF.out) (Fd.one _) rfl rfl _ _ rfl rfl rfl rfl (Fd.leP zP_full HF.out) (Fd.setAllP zP_full HF.out) ?_); intro u hk; simp only [List.set_cons_zero] at hk; clear HK; have HK := Lib.hid hk; clear hk)
          | (with_reducible refine load_kr HK.out 0 Tryz.underlying43 rfl (Pf.infoF HF.out) _ rfl rfl rfl rfl Pf.all ?_)
          | (go_at_call 43; (with_reducible refine (hcl _ (rng_below HP.out HK.out.mf.bel)).mono ?_); rintro e u ⟨rfl, hb⟩; have hk := HK.out.call hb; clear hb; clear HK; have HK := Lib.hid hk; clear hk)
          | (with_reducible refine load_k1 HK.out 0 ckH _ rfl rfl rfl rfl (Pf.cH HF.out) ?_)
          | ((with_reducible refine app_k HK.out rfl _ _ rfl rfl rfl (HRW.out.below HK.out.mf.bel (Nat.le_refl _)) ?_); intro A1 c1 u hk hnew hsz; have HN := Lib.hid (fun k hk => Nat.le_trans HK.out.mf.bel.size (hnew k hk)); clear hnew hsz; clear HK; have HK := Lib.hid hk; clear hk)
          | ((refine store_k1 HK.out 0 ckH rfl rfl _ _ rfl rfl rfl rfl rfl (Fd.ltH HF.out) (Pf.toH HF.out A1 c1 x.1.hs) ?_); intro u hk; simp only [List.set_cons_zero, List.set_cons_succ] at hk; rw [Pf.setH_self] at hk; clear HK; have HK := Lib.hid hk; clear hk)
          | ((with_reducible refine buildF_k HK.out rfl _ rfl (Pf.len HF.out) rfl ?_); intro b5 u hk; clear HK; have HK := Lib.hid hk; clear hk)
          | ((refine push_k HK.out 2 0 f_info4 f_zsize (by decide) (by decide) Tryz.underlying22 rfl rfl (Pf.len HF.out) fd_ones rfl _ _ rfl rfl rfl HLE.out ?_); intro v' u hk; simp only [List.set_cons_zero, List.set_cons_succ] at hk; clear HK; have HK := Lib.hid hk; clear hk))
        have HO2 := Lib.hid (show OF w _ qs' _ from ⟨HK.out.tail, HO.out.full, HO.out.new⟩)
        go_roundw
        case rel => exact ⟨m + 1, _, by have := HM.out; omega, by go_num, by
          rw [HQ.out, pfs_take HX.out, List.filter_append]
          simp [HT.out], HO2.out⟩
        case measure => have := HM.out; simp [intOf]; omega
    · obtain rfl : m = n := by omega
      go_wp2
      go_ret
      exact ⟨_, _, rfl, HO.out, by rw [HQ.out, ← HPL.out, List.take_length]⟩
set_option maxHeartbeats 2000000 in
theorem parts2_any (p : Pl) (bp : Nat) (A : Option Addr) (n c : Nat) (qs : List Q) (hn : n ≤ 1000) (w : World) (hP : w.rangeAt bp 0 p.cells) (hd : FR w A n qs) :
    Calls Tryz.prog 42 #[.slice A n c, .func (.func 51) #[] #[.pointer (some ⟨bp, 0, none⟩)]] w fun e w' => ∃ v qs', e = .returned v ∧ OF w v qs' w' ∧ pfs qs' = (pfs qs).filter (fun y => touchB p y.nm) := by
  have HD := Lib.hid hd
  have HP := Lib.hid hP; clear hP
  have HPL := Lib.hid (show (pfs qs).length = n by rw [pfs_len]; exact hd.1)
  clear hd
  have HO := Lib.hid (OL.nil w)
  go_enter Tryz.func42, Tryz.ntmps42
  go_wp2
  go_loopw [5, 10] (fun v i wr => ∃ (m : Nat) (qs' : List Q), m ≤ n ∧ i = .int .i64 m ∧ pfs qs' = ((pfs qs).take m).filter (fun y => touchB p y.nm) ∧ OF w v qs' wr) (fun _ i _ => n - (intOf i).toNat)
  case atStart => exact ⟨0, [], by omega, rfl, by simp, HO.out⟩
  case round =>
    obtain ⟨m, qs', hm, rfl, hq, ho⟩ := hrel
    have HQ := Lib.hid hq
    have HLE := Lib.hid (show qs'.length ≤ 1000 by
      rw [← pfs_len, hq]
      refine Nat.le_trans (List.length_filter_le _ _) ?_
      rw [List.length_take]; omega)
    clear hq
    clear HO; have HO := Lib.hid ho; clear ho
    have HK := Lib.hid HO.out.kg
    by_cases hlt : m < n
    · obtain ⟨x, hx⟩ := HD.out.get hlt
      obtain ⟨b, off, rfl, hr⟩ := HD.out.base (by omega)
      have HM := Lib.hid hlt
      have HX := Lib.hid hx
      have HF := Lib.hid (HD.out.full hx)
      have HR := Lib.hid (hr m x hx)
      have HRW := Lib.hid (HD.out.row hx)
      have i1 : (0 : Int) ≤ (m : Int) := by omega
      have i2 : (m : Int) < (n : Int) := by omega
      have hcl := fun w h => cl2_any p x.1 x.2.1 x.2.2 bp w h
      clear hr hx
      cases ht : (touchB p x.1.nm) with
      | true =>
        rw [ht] at hcl
        have HT := Lib.hid ht; clear ht
        go_wp2_with (first
          | (with_reducible refine load_kg Tryz.underlying43 rfl (Pf.infoF HF.out) _ rfl (rng_below HR.out HK.out.mf.bel) rfl rfl ?_)
          | ((with_reducible refine alloc_k HK.out f_zeroP rfl rfl ?_); intro b4 u hk; clear HK; have HK := Lib.hid hk; clear hk)
          | ((with_reducible refine store_kr HK.out 0 (Pf.infoF HF.out) (Fd.one _) rfl rfl _ _ rfl rfl rfl rfl (Fd.leP zP_full HF.out) (Fd.setAllP zP_full HF.out) ?_); intro u hk; simp only [List.set_cons_zero] at hk; clear HK; have HK := Lib.hid hk; clear hk)
          | (with_reducible refine load_kr HK.out 0 Tryz.underlying43 rfl (Pf.infoF HF.out) _ rfl rfl rfl rfl Pf.all ?_)
          | (go_at_call 51; (with_reducible refine (hcl _ (rng_below HP.out HK.out.mf.bel)).mono ?_); rintro e u ⟨rfl, hb⟩; have hk := HK.out.call hb; clear hb; clear HK; have HK := Lib.hid hk; clear hk)
          | (with_reducible refine load_k1 HK.out 0 ckH _ rfl rfl rfl rfl (Pf.cH HF.out) ?_)
          | ((with_reducible refine app_k HK.out rfl _ _ rfl rfl rfl (HRW.out.below HK.out.mf.bel (Nat.le_refl _)) ?_); intro A1 c1 u hk hnew hsz; have HN := Lib.hid (fun k hk => Nat.le_trans HK.out.mf.bel.size (hnew k hk)); clear hnew hsz; clear HK; have HK := Lib.hid hk; clear hk)
          | ((refine store_k1 HK.out 0 ckH rfl rfl _ _ rfl rfl rfl rfl rfl (Fd.ltH HF.out) (Pf.toH HF.out A1 c1 x.1.hs) ?_); intro u hk; simp only [List.set_cons_zero] at hk; rw [Pf.setH_self] at hk; clear HK; have HK := Lib.hid hk; clear hk)
          | ((with_reducible refine buildF_k HK.out rfl _ rfl (Pf.len HF.out) rfl ?_); intro b5 u hk; clear HK; have HK := Lib.hid hk; clear hk)
          | ((refine push_k HK.out 2 0 f_info4 f_zsize (by decide) (by decide) Tryz.underlying22 rfl rfl (Pf.len HF.out) fd_ones rfl _ _ rfl rfl rfl HLE.out ?_); intro v' u hk; simp only [List.set_cons_zero, List.set_cons_succ] at hk; clear HK; have HK := Lib.hid hk; clear hk))
        have hk := HK.out.tail.tail
        rw [of_push v' qs' (x.1, A1, c1)] at hk
        have HO2 := Lib.hid (HO.out.more HF.out hk HN.out)
        clear hk
        go_roundw
        case rel => exact ⟨m + 1, _, by have := HM.out; omega, by go_num, by
          rw [pfs_app, HQ.out, pfs_take HX.out, List.filter_append]
          simp only [List.filter_cons, HT.out, if_true, List.filter_nil], HO2.out⟩
        case measure => have := HM.out; simp [intOf]; omega
      | false =>
        rw [ht] at hcl
        have HT := Lib.hid ht; clear ht
        go_wp2_with (first
          | (with_reducible refine load_kg Tryz.underlying43 rfl (Pf.infoF HF.out) _ rfl (rng_below HR.out HK.out.mf.bel) rfl rfl ?_)
          | ((with_reducible refine alloc_k HK.out f_zeroP rfl rfl ?_); intro b4 u hk; clear HK; have HK := Lib.hid hk; clear hk)
          | ((with_reducible refine store_kr HK.out 0 (Pf.infoF HF.out) (Fd.one _) rfl rfl _ _ rfl rfl rfl rfl (Fd.leP zP_full HF.out) (Fd.setAllP zP_full HF.out) ?_); intro u hk; simp only [List.set_cons_zero] at hk; clear HK; have HK := Lib.hid hk; clear hk)
          | (with_reducible refine load_kr HK.out 0 Tryz.underlying43 rfl (Pf.infoF HF.out) _ rfl rfl rfl rfl Pf.all ?_)
          | (go_at_call 51; (with_reducible refine (hcl _ (rng_below HP.out HK.out.mf.bel)).mono ?_); rintro e u ⟨rfl, hb⟩; have hk := HK.out.call hb; clear hb; clear HK; have HK := Lib.hid hk; clear hk)
          | (with_reducible refine load_k1 HK.out 0 ckH _ rfl rfl rfl rfl (Pf.cH HF.out) ?_)
          | ((with_reducible refine app_k HK.out rfl _ _ rfl rfl rfl (HRW.out.below HK.out.mf.bel (Nat.le_refl _)) ?_); intro A1 c1 u hk hnew hsz; have HN := Lib.hid (fun k hk => Nat.le_trans HK.out.mf.bel.size (hnew k hk)); clear hnew hsz; clear HK; have HK := Lib.hid hk; clear hk)
          | ((refine store_k1 HK.out 0 ckH rfl rfl _ _ rfl rfl rfl rfl rfl (Fd.ltH HF.out) (Pf.toH HF.out A1 c1 x.1.hs) ?_); intro u hk; simp only [List.set_cons_zero, List.set_cons_succ] at hk; rw [Pf.setH_self] at hk; clear HK; have HK := Lib.hid hk; clear hk)
          | ((with_reducible refine buildF_k HK.out rfl _ rfl (Pf.len HF.out) rfl ?_); intro b5 u hk; clear HK; have HK := Lib.hid hk; clear hk)
          | ((refine push_k HK.out 2 0 f_info4 f_zsize (by decide) (by decide) Tryz.underlying22 rfl rfl (Pf.len HF.out) fd_ones rfl _ _ rfl rfl rfl HLE.out ?_); intro v' u hk; simp only [List.set_cons_zero, List.set_cons_succ] at hk; clear HK; have HK := Lib.hid hk; clear hk))
        have HO2 := Lib.hid (show OF w _ qs' _ from ⟨HK.out.tail, HO.out.full, HO.out.new⟩)
        go_roundw
        case rel => exact ⟨m + 1, _, by have := HM.out; omega, by go_num, by
          rw [HQ.out, pfs_take HX.out, List.filter_append]
          simp [HT.out], HO2.out⟩
        case measure => have := HM.out; simp [intOf]; omega
    · obtain rfl : m = n := by omega
      go_wp2
      go_ret
      exact ⟨_, _, rfl, HO.out, by rw [HQ.out, ← HPL.out, List.take_length]⟩
set_option maxHeartbeats 2000000 in
theorem parts3_any (p : Pl) (bp : Nat) (A : Option Addr) (n c : Nat) (qs : List Q) (hn : n ≤ 1000) (w : World) (hP : w.rangeAt bp 0 p.cells) (hd : FR w A n qs) :
    Calls Tryz.prog 42 #[.slice A n c, .func (.func 52) #[] #[.pointer (some ⟨bp, 0, none⟩)]] w fun e w' => ∃ v qs', e = .returned v ∧ OF w v qs' w' ∧ pfs qs' = (pfs qs).filter (fun y => !(touchB p y.nm)) := by
  have HD := Lib.hid hd
  have HP := Lib.hid hP; clear hP
  have HPL := Lib.hid (show (pfs qs).length = n by rw [pfs_len]; exact hd.1)
  clear hd
  have HO := Lib.hid (OL.nil w)
  go_enter Tryz.func42, Tryz.ntmps42
  go_wp2
  go_loopw [5, 10] (fun v i wr => ∃ (m : Nat) (qs' : List Q), m ≤ n ∧ i = .int .i64 m ∧ pfs qs' = ((pfs qs).take m).filter (fun y => !(touchB p y.nm)) ∧ OF w v qs' wr) (fun _ i _ => n - (intOf i).toNat)
  case atStart => exact ⟨0, [], by omega, rfl, by simp, HO.out⟩
  case round =>
    obtain ⟨m, qs', hm, rfl, hq, ho⟩ := hrel
    have HQ := Lib.hid hq
    have HLE := Lib.hid (show qs'.length ≤ 1000 by
      rw [← pfs_len, hq]
      refine Nat.le_trans (List.length_filter_le _ _) ?_
      rw [List.length_take]; omega)
    clear hq
    clear HO; have HO := Lib.hid ho; clear ho
    have HK := Lib.hid HO.out.kg
    by_cases hlt : m < n
    · obtain ⟨x, hx⟩ := HD.out.get hlt
      obtain ⟨b, off, rfl, hr⟩ := HD.out.base (by omega)
      have HM := Lib.hid hlt
      have HX := Lib.hid hx
      have HF := Lib.hid (HD.out.full hx)
      have HR := Lib.hid (hr m x hx)
      have HRW := Lib.hid (HD.out.row hx)
      have i1 : (0 : Int) ≤ (m : Int) := by omega
      have i2 : (m : Int) < (n : Int) := by omega
      have hcl := fun w h => cl3_any p x.1 x.2.1 x.2.2 bp w h
      clear hr hx
      cases ht : (!(touchB p x.1.nm)) with
      | true =>
        rw [ht] at hcl
        have HT := Lib.hid ht; clear ht
        go_wp2_with (first
          | (with_reducible refine load_kg Tryz.underlying43 rfl (Pf.infoF HF.out) _ rfl (rng_below HR.out HK.out.mf.bel) rfl rfl ?_)
          | ((with_reducible refine alloc_k HK.out f_zeroP rfl rfl ?_); intro b4 u hk; clear HK; have HK := Lib.hid hk; clear hk)
          | ((with_reducible refine store_kr HK.out 0 (Pf.infoF HF.out) (Fd.one _) rfl rfl _ _ rfl rfl rfl rfl (Fd.leP zP_full HF.out) (Fd.setAllP zP_full HF.out) ?_); intro u hk; simp only [List.set_cons_zero] at hk; clear HK; have HK := Lib.hid hk; clear hk)
          | (with_reducible refine load_kr HK.out 0 Tryz.underlying43 rfl (Pf.infoF HF.out) _ rfl rfl rfl rfl Pf.all ?_)
          | (go_at_call 52; (with_reducible refine (hcl _ (rng_below HP.out HK.out.mf.bel)).mono ?_); rintro e u ⟨rfl, hb⟩; have hk := HK.out.call hb; clear hb; clear HK; have HK := Lib.hid hk; clear hk)
          | (with_reducible refine load_k1 HK.out 0 ckH _ rfl rfl rfl rfl (Pf.cH HF.out) ?_)
          | ((with_reducible refine app_k HK.out rfl _ _ rfl rfl rfl (HRW.out.below HK.out.mf.bel (Nat.le_refl _)) ?_); intro A1 c1 u hk hnew hsz; have HN := Lib.hid (fun k hk => Nat.le_trans HK.out.mf.bel.size (hnew k hk)); clear hnew hsz; clear HK; have HK := Lib.hid hk; clear hk)
          | ((refine store_k1 HK.out 0 ckH rfl rfl _ _ rfl rfl rfl rfl rfl (Fd.ltH HF.out) (Pf.toH HF.out A1 c1 x.1.hs) ?_); intro u hk; simp only [List.set_cons_zero] at hk; rw [Pf.setH_self] at hk; clear HK; have HK := Lib.hid hk; clear hk)
          | ((with_reducible refine buildF_k HK.out rfl _ rfl (Pf.len HF.out) rfl ?_); intro b5 u hk; clear HK; have HK := Lib.hid hk; clear hk)
          | ((refine push_k HK.out 2 0 f_info4 f_zsize (by decide) (by decide) Tryz.underlying22 rfl rfl (Pf.len HF.out) fd_ones rfl _ _ rfl rfl rfl HLE.out ?_); intro v' u hk; simp only [List.set_cons_zero, List.set_cons_succ] at hk; clear HK; have HK := Lib.hid hk; clear hk))
        have hk := HK.out.tail.tail
        rw [of_push v' qs' (x.1, A1, c1)] at hk
        have HO2 := Lib.hid (HO.out.more HF.out hk HN.out)
        clear hk
        go_roundw
        case rel => exact ⟨m + 1, _, by have := HM.out; omega, by go_num, by
          rw [pfs_app, HQ.out, pfs_take HX.out, List.filter_append]
          simp only [List.filter_cons, HT.out, if_true, List.filter_nil], HO2.out⟩
        case measure => have := HM.out; simp [intOf]; omega
      | false =>
        rw [ht] at hcl
        have HT := Lib.hid ht; clear ht
        go_wp2_with (first
          | (with_reducible refine load_kg Tryz.underlying43 rfl (Pf.infoF HF.out) _ rfl (rng_below HR.out HK.out.mf.bel) rfl rfl ?_)
          | ((with_reducible refine alloc_k HK.out f_zeroP rfl rfl ?_); intro b4 u hk; clear HK; have HK := Lib.hid hk; clear hk)
          | ((with_reducible refine store_kr HK.out 0 (Pf.infoF HF.out) (Fd.one _) rfl rfl _ _ rfl rfl rfl rfl (Fd.leP zP_full HF.out) (Fd.setAllP zP_full HF.out) ?_); intro u hk; simp only [List.set_cons_zero] at hk; clear HK; have HK := Lib.hid hk; clear hk)
          | (with_reducible refine load_kr HK.out 0 Tryz.underlying43 rfl (Pf.infoF HF.out) _ rfl rfl rfl rfl Pf.all ?_)
          | (go_at_call 52; (with_reducible refine (hcl _ (rng_below HP.out HK.out.mf.bel)).mono ?_); rintro e u ⟨rfl, hb⟩; have hk := HK.out.call hb; clear hb; clear HK; have HK := Lib.hid hk; clear hk)
          | (with_reducible refine load_k1 HK.out 0 ckH _ rfl rfl rfl rfl (Pf.cH HF.out) ?_)
          | ((with_reducible refine app_k HK.out rfl _ _ rfl rfl rfl (HRW.out.below HK.out.mf.bel (Nat.le_refl _)) ?_); intro A1 c1 u hk hnew hsz; have HN := Lib.hid (fun k hk => Nat.le_trans HK.out.mf.bel.size (hnew k hk)); clear hnew hsz; clear HK; have HK := Lib.hid hk; clear hk)
          | ((refine store_k1 HK.out 0 ckH rfl rfl _ _ rfl rfl rfl rfl rfl (Fd.ltH HF.out) (Pf.toH HF.out A1 c1 x.1.hs) ?_); intro u hk; simp only [List.set_cons_zero, List.set_cons_succ] at hk; rw [Pf.setH_self] at hk; clear HK; have HK := Lib.hid hk; clear hk)
          | ((with_reducible refine buildF_k HK.out rfl _ rfl (Pf.len HF.out) rfl ?_); intro b5 u hk; clear HK; have HK := Lib.hid hk; clear hk)
          | ((refine push_k HK.out 2 0 f_info4 f_zsize (by decide) (by decide) Tryz.underlying22 rfl rfl (Pf.len HF.out) fd_ones rfl _ _ rfl rfl rfl HLE.out ?_); intro v' u hk; simp only [List.set_cons_zero, List.set_cons_succ] at hk; clear HK; have HK := Lib.hid hk; clear hk))
        have HO2 := Lib.hid (show OF w _ qs' _ from ⟨HK.out.tail, HO.out.full, HO.out.new⟩)
        go_roundw
        case rel => exact ⟨m + 1, _, by have := HM.out; omega, by go_num, by
          rw [HQ.out, pfs_take HX.out, List.filter_append]
          simp [HT.out], HO2.out⟩
        case measure => have := HM.out; simp [intOf]; omega
    · obtain rfl : m = n := by omega
      go_wp2
      go_ret
      exact ⟨_, _, rfl, HO.out, by rw [HQ.out, ← HPL.out, List.take_length]⟩

end Go.Proofs.YtgblnlpfgdbnnaaGreat
