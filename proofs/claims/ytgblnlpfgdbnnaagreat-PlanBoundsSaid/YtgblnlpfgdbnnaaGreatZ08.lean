/- Rows of holds: what append does to one, and what a literal and a slice expression make.; Fields that are copied, picked and asked: own, parts, ContainsFunc at fields and holds.; Plain facts of fields that may be, and of plans that fit.; Plain facts of what a plan makes.; What is applied, and copied, as slices that are read; the field of a name. -/
import Derived.Test.YtgblnlpfgdbnnaaGreatZ39
namespace Go.Proofs.YtgblnlpfgdbnnaaGreat
set_option maxRecDepth 100000
open Go.ChangeShapes Go.WideShapes Go.ChangeAt Go.RowKit

theorem run_build0 (u : World) : (Instr.buildSlice 41 0 #[]).run Tryz.prog u = .ok (.slice (some ⟨u.heap.size, 0, none⟩) 0 0) (u.alloc (.cells #[] 81)) := by
  obtain ⟨i0, hi0, hz0, hz1, hz2⟩ := info_parts h_info3
  simp [Instr.buildSlice, run_underlying Tryz.underlying41, sizeOf, typeInfo, hi0, Instr.fill, newRow, newObj]
  rw [show Array.map (fun _ : Nat => (default : Value)) (Array.range 0) = #[] from by simp]
  rfl

/-- A row of the call's own is read alone from now on. -/
theorem Kg.toRo {w u : World} {F : Nat → Prop} {own ro : List Th} {x t : Th} (h : Kg w F (x :: own) ro u) (ht : t.P u) (hf : ∀ k, t.foot k → x.foot k) : Kg w F own (t :: ro) u :=
  h.tail.also ht fun e he k hk hc => by
    obtain ⟨j, hj⟩ := List.mem_iff_getElem?.1 he
    exact h.lone 0 (j + 1) x e rfl (by simpa using hj) (by omega) k (hf k hk) hc
theorem Kg.appH {ops : Array Oper} {rest : List Oper} {o : Oper} {a : Act} {w u : World} {F : Nat → Prop} {own ro : List Th} {Q' : Exit → Act → World → Prop} (hk : Kg w F own ro u) (i : Nat) {v : Value} (hi : own[i]? = some (Th.og 81 5 v 0 [])) (hgd : o.guard = none) (s x : Operand) (ho : o.op = .call { callee := .builtin .append, args := #[s, x], argTypes := #[41, 41] }) (hs : a.eval s = v)
    {A : Option Addr} {c : Nat} {hs' : List Ho} (hx : a.eval x = .slice A hs'.length c) (hr : Row u A hs'.length hs')
    (h : ∀ A' c' u', Kg w F (own.set i (Th.og 81 5 (.slice A' hs'.length c') hs'.length (vals (flat hs')))) ro u' → wpList Tryz.prog ops Q' rest (a.put o.dst (.slice A' hs'.length c')) u') : wpList Tryz.prog ops Q' (o :: rest) a u :=
  wpList_plain hgd fun _ hK => by
    obtain ⟨v', w', hrun, h2, h3, h4⟩ := append_hos u 0 o.type v [] (hk.ogAt i hi) A hs'.length c hs' hr (by have := hr.2.1; simp only [List.length_nil]; omega) (Nat.zero_le _)
    rw [List.nil_append] at h2
    obtain ⟨A', c', rfl⟩ := h2.slice
    have hK := hK _ _ (h A' c' w' (hk.pushed i hi (show w'.ownsRow 0 81 5 _ hs'.length (vals (flat hs')) from h2) h3 h4))
    unfold Oper.wp execOp
    simp only [ho, resolve, invoke, builtin, Sem.run_bind, Sem.run_pure, Result.andThen_ok, List.map_toArray, List.map_cons, List.map_nil, hs, hx, hrun]
    exact hK
theorem Kg.none0 {ops : Array Oper} {rest : List Oper} {o : Oper} {a : Act} {w u : World} {F : Nat → Prop} {own ro : List Th} {Q' : Exit → Act → World → Prop} (hk : Kg w F own ro u) (hgd : o.guard = none) (ho : o.op = .buildSlice 41 0 #[])
    (h : ∀ v u', Kg w F (Th.og 81 5 v 0 [] :: own) ro u' → wpList Tryz.prog ops Q' rest (a.put o.dst v) u') : wpList Tryz.prog ops Q' (o :: rest) a u :=
  wpList_plain hgd fun K hK => by
    have hb : Below u.heap.size u (u.alloc (.cells #[] 81)) := (Below.refl _ _).alloc (Nat.le_refl _) _
    have ho' : (u.alloc (.cells #[] 81)).ownsRow u.heap.size 81 5 (.slice (some ⟨u.heap.size, 0, none⟩) 0 0) 0 [] := World.ownsRow_made u #[] 0 (Nat.le_refl _) (Nat.zero_le _) (by simp)
    unfold Oper.wp execOp
    simp only [ho, List.map_toArray, List.map_nil, Sem.run_bind, Sem.run_pure, Result.andThen_ok, run_build0]
    exact hK _ _ (h _ _ (hk.add (t := Th.og 81 5 (.slice (some ⟨u.heap.size, 0, none⟩) 0 0) 0 []) hb (row_base ho' fun _ _ => Nat.zero_le _) (fun k hk => (row_lt ho' hk).2)))
theorem og_row {u : World} {A : Option Addr} {n c : Nat} {hs : List Ho} (h : u.ownsRow 0 81 5 (.slice A n c) hs.length (vals (flat hs))) (hl : hs.length ≤ 1000) (hn : n = hs.length) : Row u A hs.length hs := by
  subst hn
  exact Own.row (base := 0) (c := c) h hl
/-- The holds of a row of the call's own are read alone. -/
theorem Kg.hrOf {w u : World} {F : Nat → Prop} {own ro : List Th} {A : Option Addr} {c : Nat} {hs : List Ho} (h : Kg w F (Th.og 81 5 (.slice A hs.length c) hs.length (vals (flat hs)) :: own) ro u) (hl : hs.length ≤ 1000) : Kg w F own (Th.hr A hs :: ro) u :=
  h.toRo (og_row (h.ogAt 0 rfl) hl rfl) fun k hk => by
    obtain ⟨_, a, ha, rfl⟩ := hk
    show (Value.slice A hs.length c).ownBlock = some a.block
    subst ha; rfl
theorem foot_new {w u : World} {own ro : List Th} (h : Kg w (fun _ => False) own ro u) {t : Th} (ht : t ∈ own) {k : Nat} (hk : t.foot k) : w.heap.size ≤ k := (h.cov t ht k hk).resolve_left id
set_option maxHeartbeats 2000000 in
theorem own_any (A : Option Addr) (n c : Nat) (qs : List Q) (hn : n ≤ 1000) (w : World) (hd : FR w A n qs) :
    Calls Tryz.prog 21 #[.slice A n c] w fun e w' => ∃ v qs', e = .returned v ∧ OF w v qs' w' ∧ pfs qs' = pfs qs := by
  have HD := Lib.hid hd
  have HPL := Lib.hid (show (pfs qs).length = n by rw [pfs_len]; exact hd.1)
  clear hd
  have HO := Lib.hid (OL.nil w)
  go_enter Tryz.func21, Tryz.ntmps21
  go_wp2
  go_loopw [3, 8] (fun v i wr => ∃ (m : Nat) (qs' : List Q), m ≤ n ∧ i = .int .i64 m ∧ pfs qs' = (pfs qs).take m ∧ OF w v qs' wr) (fun _ i _ => n - (intOf i).toNat)
  case atStart => exact ⟨0, [], by omega, rfl, by simp, HO.out⟩
  case round =>
    obtain ⟨m, qs', hm, rfl, hq, ho⟩ := hrel
    have HQ := Lib.hid hq
    have HLE := Lib.hid (show qs'.length ≤ 1000 by rw [← pfs_len, hq, List.length_take]; omega)
    clear hq
    clear HO; have HO := Lib.hid ho; clear ho
    have HK := Lib.hid HO.out.kg
    by_cases hlt : m < n
    · obtain ⟨x, hx⟩ := HD.out.get hlt
      obtain ⟨b, off, rfl, hr⟩ := HD.out.base (by omega)
      have HM := Lib.hid hlt
      have HX := Lib.hid hx
      have HF := Lib.hid (HD.out.full hx)
      have HR := Lib.hid (hr m x hx)
      have HRW := Lib.hid (HD.out.row hx)
      have i1 : (0 : Int) ≤ (m : Int) := by omega
      have i2 : (m : Int) < (n : Int) := by omega
      clear hr hx
      go_wp2_with (first
        | (with_reducible refine load_kg Tryz.underlying43 rfl (Pf.infoF HF.out) _ rfl (rng_below HR.out HK.out.mf.bel) rfl rfl ?_)
        | ((with_reducible refine alloc_k HK.out f_zeroP rfl rfl ?_); intro b4 u hk; clear HK; have HK := Lib.hid hk; clear hk)
        | ((with_reducible refine store_kr HK.out 0 (Pf.infoF HF.out) (Fd.one _) rfl rfl _ _ rfl rfl rfl rfl (Fd.leP zP_full HF.out) (Fd.setAllP zP_full HF.out) ?_); intro u hk; simp only [List.set_cons_zero] at hk; clear HK; have HK := Lib.hid hk; clear hk)
        | ((with_reducible refine Kg.none0 HK.out rfl rfl ?_); intro vh u hk; clear HK; have HK := Lib.hid hk; clear hk)
        | (with_reducible refine load_k1 HK.out 1 ckH _ rfl rfl rfl rfl (Pf.cH HF.out) ?_)
        | ((with_reducible refine Kg.appH HK.out 0 rfl rfl _ _ rfl rfl rfl (HRW.out.below HK.out.mf.bel (Nat.le_refl _)) ?_); intro A1 c1 u hk; simp only [List.set_cons_zero] at hk; clear HK; have HK := Lib.hid hk; clear hk)
        | ((refine store_k1 HK.out 1 ckH rfl rfl _ _ rfl rfl rfl rfl rfl (Fd.ltH HF.out) (Pf.toH HF.out A1 c1 x.1.hs) ?_); intro u hk; simp only [List.set_cons_zero, List.set_cons_succ] at hk; rw [Pf.setH_self] at hk; clear HK; have HK := Lib.hid hk; clear hk)
        | (with_reducible refine load_kr HK.out 1 Tryz.underlying43 rfl (Pf.infoF HF.out) _ rfl rfl rfl rfl Pf.all ?_)
        | ((with_reducible refine buildF_k HK.out rfl _ rfl (Pf.len HF.out) rfl ?_); intro b5 u hk; clear HK; have HK := Lib.hid hk; clear hk)
        | ((refine push_k HK.out 3 0 f_info4 f_zsize (by decide) (by decide) Tryz.underlying22 rfl rfl (Pf.len HF.out) fd_ones rfl _ _ rfl rfl rfl HLE.out ?_); intro v' u hk; simp only [List.set_cons_zero, List.set_cons_succ] at hk; clear HK; have HK := Lib.hid hk; clear hk))
      have HN := Lib.hid (fun k hk => foot_new HK.out.tail (t := Th.og 81 5 (.slice A1 x.1.hs.length c1) x.1.hs.length (vals (flat x.1.hs))) List.mem_cons_self (k := k) hk)
      have hk := (HK.out.tail.hrOf HRW.out.2.1).tail
      rw [of_push v' qs' (x.1, A1, c1)] at hk
      have HO2 := Lib.hid (HO.out.more HF.out hk (fun k hk' => HN.out k (by
        obtain ⟨_, a, ha, rfl⟩ := hk'
        show (Value.slice A1 x.1.hs.length c1).ownBlock = some a.block
        subst ha; rfl)))
      clear hk
      go_roundw
      case rel => exact ⟨m + 1, _, by have := HM.out; omega, by go_num, by rw [pfs_app, HQ.out, pfs_take HX.out], HO2.out⟩
      case measure => have := HM.out; simp [intOf]; omega
    · obtain rfl : m = n := by omega
      go_wp2
      go_ret
      exact ⟨_, _, rfl, HO.out, by rw [HQ.out, ← HPL.out]; exact List.take_length⟩

/-! ### Fields that may be. -/
/-! ### Plans that fit. -/
theorem appE_fit {ps : List Pf} {p : Pl} (h : appE ps p = 0) : Fit ps p ∧ mkE (aboutP ps p) p = 0 := by
  unfold appE at h
  split at h
  · rename_i h1; exact absurd h h1
  · rename_i h1; exact ⟨fit_is (by omega), h⟩

/-! ### Sums. -/
/-! ### Epochs. -/
/-! ### What is applied. -/
theorem goes_of {ps : List Pf} {p : Pl} (h : appE ps p = 0) : Goes ps p := by
  obtain ⟨hf, hm⟩ := appE_fit h
  unfold mkE at hm
  split at hm
  · rename_i h1; exact absurd hm h1
  · split at hm
    · rename_i h1; exact absurd hm h1
    · split at hm
      · cases hm
      · split at hm
        · cases hm
        · rename_i h1 h2 h3 h4
          exact ⟨hf, by omega, by omega, by simpa using h3, by simpa using h4⟩
theorem filter_two (P : Pf → Bool) (ps : List Pf) : (ps.filter P).length + (ps.filter fun x => !(P x)).length = ps.length := by
  induction ps with
  | nil => rfl
  | cons x ps ih => cases h : P x <;> simp [h] <;> omega
theorem ds_len {ps : List Pf} {p : Pl} : (dsP ps p).length = if p.k = 5 then 2 else 1 := by
  unfold dsP draftsP
  simp only
  split
  · rw [if_neg (by omega)]; rfl
  · split
    · rw [if_neg (by omega)]; rfl
    · split
      · rw [if_neg (by omega)]; rfl
      · split
        · rw [if_neg (by omega)]; rfl
        · split <;> rfl
theorem app_len {ps xs : List Pf} {p : Pl} (h : Goes ps p) (ha : Applied ps p xs) : xs.length + (aboutP ps p).length = (if p.k = 5 then 2 else 1) + ps.length := by
  have h1 := ha.1.length_eq
  rw [goes_L h, List.length_append, List.length_map, ds_len] at h1
  have h2 := filter_two (fun y => touchB p y.nm) ps
  have e1 : (aboutP ps p).length = (ps.filter fun y => touchB p y.nm).length := rfl
  have e2 : (restP ps p).length = (ps.filter fun y => !(touchB p y.nm)).length := rfl
  omega
theorem app_fields {ps xs : List Pf} {p : Pl} (h : Goes ps p) (ha : Applied ps p xs) : fieldsB xs = true := by
  obtain ⟨f1, f2, f3⟩ := fields_is h.fit.fs
  refine fields_of ?_ (fun x hx => ?_) (app_sorted h ha)
  · have h1 := app_len h ha
    have h2 := (about_pos h.fit).1
    have h3 := (place_is h.fit.at_).2.2
    by_cases hk : p.k = 5
    · have := (h3 hk).2
      rw [if_pos hk] at h1; omega
    · rw [if_neg hk] at h1; omega
  · rcases (app_mem h ha).1 hx with ⟨d, h1, h2⟩ | h1
    · rw [h2]; exact (goes_made h h1).right
    · exact f2 x (rest_sub h1).1
/-! ### Whom a plan is about. -/

theorem FR.rng {w : World} {b off n m : Nat} {qs : List Q} (h : FR w (some ⟨b, off, none⟩) n qs) {x : Q} (hx : qs[m]? = some x) : w.rangeAt b (off + m * 587) (x.1.fd x.2.1 x.2.2).cells :=
  h.name hx (by have := (List.getElem?_eq_some_iff.1 hx).1; have := h.1; omega)
theorem FR.ptr {w : World} {A : Option Addr} {n m : Nat} {qs : List Q} (h : FR w A n qs) {x : Q} (hx : qs[m]? = some x) : ∃ b off : Nat, A = some ⟨b, off, none⟩ := by
  obtain ⟨b, off, e, _⟩ := h.base (by have := (List.getElem?_eq_some_iff.1 hx).1; have := h.1; omega)
  exact ⟨b, off, e⟩
theorem ow_any (A : Option Addr) (n c : Nat) (qs : List Q) (hn : n ≤ 1000) (w : World) (hd : FR w A n qs) :
    Calls Tryz.prog 21 #[.slice A n c] w fun e u => ∃ A2 c2 qs', e = .returned (.slice A2 n c2) ∧ Below w.heap.size w u ∧ FR u A2 n qs' ∧ (∀ k, (Th.fr A2 n qs').foot k → w.heap.size ≤ k) ∧ pfs qs' = pfs qs :=
  (own_any A n c qs hn w hd).mono fun e u ⟨v, qs', he, ho, hp⟩ => by
    obtain ⟨A2, c2, rfl, hfr, hnew⟩ := ho.fr
    have hl : qs'.length = n := by rw [← pfs_len, hp, pfs_len]; exact hd.1
    rw [hl] at hfr hnew he
    exact ⟨A2, c2, qs', he, ho.bel, hfr, hnew, hp⟩
theorem ap_any (p : Pl) (hP : PlOk p) (A : Option Addr) (n c : Nat) (qs : List Q) (hn : n ≤ 900) (hN : Fits1000 qs) (ps : List Pf) (hps : pfs qs = ps) (E : Int) (hE : appE ps p = E) (w : World) (hd : FR w A n qs) :
    Calls Tryz.prog 20 #[.slice A n c, .agg p.cells.toArray] w fun e u => ∃ A2 c2 xs, e = .returned (.tuple #[.slice A2 xs.length c2, .int .i64 E]) ∧ Below w.heap.size w u ∧ FR u A2 xs.length xs ∧ (∀ k, (Th.fr A2 xs.length xs).foot k → w.heap.size ≤ k) ∧ (E = 0 → Applied ps p (pfs xs)) ∧ (E ≠ 0 → xs = []) :=
  (apply_any p hP A n c qs (by omega) hn hN w hd).mono fun e u ⟨v, xs, he, ho, h1, h2⟩ => by
    rw [hps, hE] at he h1 h2
    obtain ⟨A2, c2, rfl, hfr, hnew⟩ := ho.fr
    exact ⟨A2, c2, xs, he, ho.bel, hfr, hnew, h1, h2⟩
theorem fits_of {qs qs' : List Q} (h : pfs qs' = pfs qs) (hN : Fits1000 qs) : Fits1000 qs' := fun x hx => by
  have hm : x.1 ∈ pfs qs' := List.mem_map.2 ⟨x, hx, rfl⟩
  rw [h] at hm
  obtain ⟨y, hy, e⟩ := List.mem_map.1 hm
  rw [← e]; exact hN y hy
theorem nm_8 {s : ByteArray} (h : nameB s = true) : s.size ≤ 8 := by
  simp only [nameB, Bool.and_eq_true, decide_eq_true_eq] at h
  exact h.1.2
theorem fits_right {xs : List Q} (h : fieldsB (pfs xs) = true) : Fits1000 xs ∧ xs.length ≤ 4 ∧ ∀ x ∈ xs, okP x.1 := by
  obtain ⟨h1, h2, _⟩ := fields_is h
  refine ⟨fun x hx => ?_, by rw [← pfs_len]; exact h1, fun x hx => right_ok (h2 x.1 (List.mem_map.2 ⟨x, hx, rfl⟩))⟩
  have := nm_8 (right_parts (h2 x.1 (List.mem_map.2 ⟨x, hx, rfl⟩))).1
  omega

end Go.Proofs.YtgblnlpfgdbnnaaGreat
