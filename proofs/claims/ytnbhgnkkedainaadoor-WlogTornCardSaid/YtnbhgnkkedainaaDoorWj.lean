/- The contract of awake. -/
import Derived.Test.YtnbhgnkkedainaaDoorWi
import Derived.Lib.SlBytesConst
namespace Go.Proofs.YtnbhgnkkedainaaDoor
open Go.ChangeShapes Go.WideShapes Go.ChangeAt Go.RowKit

theorem bys_marked (u : World) (cs : Array Value) (l : List UInt8) (h : cs = (bys l).toArray) (fz : Nat × Nat) : Bys (u.alloc (.cells cs 5 fz)) (some ⟨u.heap.size, 0, none⟩) l := by
  subst h
  refine .inr ⟨u.heap.size, 0, rfl, fun i hi => ?_⟩
  rw [cell_of_row _ u.heap.size (0 + i) _ 5 _ (heap_alloc_new u _)]
  rw [Nat.zero_add, List.getElem?_toArray, bys_get hi]
section
variable {w u u' : World} {F : Nat → Prop} {own ro : List Th}
/-- Bytes that a text's constant lays. -/
theorem Kg.lit (h : Kg w F own ro u) (cs : Array Value) (l : List UInt8) (hc : cs = (Go.Proofs.YtnbhgnkkedainaaDoor.bys l).toArray) (fz : Nat × Nat) : Kg w F own (Th.bys (some ⟨u.heap.size, 0, none⟩) l :: ro) (u.alloc (.cells cs 5 fz)) :=
  h.made (t := Th.bys (some ⟨u.heap.size, 0, none⟩) l) (below_new _ _) (bys_marked u cs l hc fz) (fun k hk => by
    obtain ⟨_, a, ha, rfl⟩ := hk
    injection ha with ha
    subst ha
    exact Nat.le_refl _)
end
/-- Opening by letters, as one step of what is kept. -/
theorem open_k {w u : World} {own ro : List Th} (h : Kg w (fun _ => False) own ro u) (hw : Nib w) (i : Nat) {r z : Nat} {f : Int} (hf : 0 ≤ f) {v : Value} {d : List UInt8} (hi : own[i]? = some (Th.dk r z f v d)) (hm : d.length ≤ 1000000) (M : List (List UInt8)) (hM : scn d = M) (P : List UInt8) (hP : fls M = P) (N : Nat) (hN : P.length = N) (ht : tkE (d.drop N) = 3) :
    Calls Tryd.prog 12 #[.pointer (some ⟨r, 0, none⟩)] u fun e u' => ∃ rl v1 v' L, e = .returned (.tuple #[.pointer (some ⟨rl, 0, none⟩), .int .i64 0]) ∧ txt L = M ∧ Kg w (fun _ => False) (Th.lo rl r v1 L :: own.set i (Th.dk r z N v' P)) ro u' := by
  subst hN; subst hP
  obtain ⟨f, rfl⟩ := Int.eq_ofNat_of_zero_le hf
  refine (open_log r z f v d hm M hM ht u (hw.below h.mf.bel) (h.pick1 i hi (ro' := []) (by simp))).mono ?_
  rintro e u' ⟨rl, v1, v', L, he, ht, h2⟩
  exact ⟨rl, v1, v', L, he, ht, h.opened i hi h2⟩
/-- Appending, as one step of what is kept. -/
theorem append_k {w u : World} {own ro : List Th} (h : Kg w (fun _ => False) own ro u) (hw : Nib w) (i j : Nat) {r rd z : Nat} {f : Int} {v vd : Value} {L : List BPart} {d : List UInt8} (hi : own[i]? = some (Th.lo r rd v L)) (hj : own[j]? = some (Th.dk rd z f vd d)) (hij : i ≠ j) (k' : Nat) {A : Option Addr} {k c : Nat} {p : List UInt8} (hA : ro[k']? = some (Th.bys A p))
    (hp : p.length = k) (hk : k ≤ 32768) (hz : z ≤ 1048576) (hroom : d.length + (8 + k) ≤ z) (hL : L.length ≤ 1000000) (P : List UInt8) (hP : d ++ frm p = P) (N : Nat) (hN : P.length = N) :
    Calls Tryd.prog 14 #[.pointer (some ⟨r, 0, none⟩), .slice A k c] u fun e u' => e = .returned (.int .i64 0) ∧ ∃ v' vd' A' c', Kg w (fun _ => False) ((own.set i (Th.lo r rd v' (L ++ [(A', c', p)]))).set j (Th.dk rd z N vd' P)) ro u' := by
  subst hN; subst hP
  refine (append_log r rd z f v vd L d A k c p hp hk hz hroom hL u (hw.below h.mf.bel) (h.pick2 i j hi hj hij (ro' := [Th.bys A p]) (fun r hr => by
    obtain rfl := List.mem_singleton.1 hr
    exact List.mem_of_getElem? hA))).mono ?_
  rintro e u' ⟨he, v', vd', A', c', h2⟩
  exact ⟨he, v', vd', A', c', h.back2 i j hi hj hij h2⟩
/-- Making short, as one step of what is kept. -/
theorem compact_k {w u : World} {own ro : List Th} (h : Kg w (fun _ => False) own ro u) (hw : Nib w) (i j : Nat) {r rd z : Nat} {f : Int} {v vd : Value} {L : List BPart} {d : List UInt8} (hi : own[i]? = some (Th.lo r rd v L)) (hj : own[j]? = some (Th.dk rd z f vd d)) (hij : i ≠ j)
    (n : Nat) (hn : L.length = n + 1) (hnx : n ≤ 1000000) {A1 : Option Addr} {c1 : Nat} {p : List UInt8} (hp : L[n]? = some (A1, c1, p)) (hk : p.length ≤ 32768) (hz : z ≤ 1048576) (hroom : 8 + p.length ≤ z) (P : List UInt8) (hP : frm p = P) (N : Nat) (hN : P.length = N) :
    Calls Tryd.prog 16 #[.pointer (some ⟨r, 0, none⟩)] u fun e u' => e = .returned (.int .i64 0) ∧ ∃ v' vd' A' c', Kg w (fun _ => False) ((own.set i (Th.lo r rd v' [(A', c', p)])).set j (Th.dk rd z N vd' P)) ro u' := by
  subst hN; subst hP
  refine (compact_log r rd z f v vd L d n hn hnx A1 c1 p hp hk hz hroom u (hw.below h.mf.bel) (h.pick2 i j hi hj hij (ro' := []) (by simp))).mono ?_
  rintro e u' ⟨he, v', vd', A', c', h2⟩
  exact ⟨he, v', vd', A', c', h.back2 i j hi hj hij h2⟩
theorem txt_one {L : List BPart} {p : List UInt8} (h : txt L = [p]) : ∃ A c, L = [(A, c, p)] := by
  match L, h with
  | [(A, c, q)], h =>
    simp only [txt, List.map_cons, List.map_nil, List.cons.injEq, and_true] at h
    subst h
    exact ⟨A, c, rfl⟩
theorem txt_none {L : List BPart} (h : txt L = []) : L = [] := List.eq_nil_of_length_eq_zero (by rw [← txt_length, h]; rfl)
theorem scn_nil : scn [] = [] := scn_no (by rw [tk_nil]; decide)
/-- A frame, and bytes behind it that are too few for another one. -/
theorem scn_two {p t : List UInt8} (hp : p.length ≤ 32768) (ht : t.length < 8) : scn (frm p ++ t) = [p] ∧ tkE ((frm p ++ t).drop (frm p).length) = 3 := by
  have h3 : tkE t = 3 := by rw [tkE, if_pos ht]
  refine ⟨?_, by rw [List.drop_append_of_le_length (Nat.le_refl _), List.drop_length, List.nil_append]; exact h3⟩
  have := scn_fls [p] t (fun q hq => by obtain rfl := List.mem_singleton.1 hq; exact hp)
  rw [fls_one, scn_no (l := t) (by rw [h3]; decide)] at this
  simpa using this
theorem tk_nil0 : tkE (([] : List UInt8).drop 0) = 3 := tk_nil
theorem bytes_n (r : Nat) (z f : Int) (v : Value) (d : List UInt8) (n : Nat) (hn : d.length = n) (hm : n ≤ 1048576) (w : World) (h : Dk w r z v f d) : Calls Tryd.prog 22 #[.pointer (some ⟨r, 0, none⟩)] w fun e w' => ∃ A c, (e = .returned (.slice A n c) ∧ n ≤ c) ∧ KO w (.slice A n c) d w' := by
  subst hn
  exact bytes_any r z f v d w h hm
set_option maxRecDepth 100000 in
theorem awake_any (w : World) (hw : Nib w) : Calls Tryd.prog 10 #[] w fun e w' => e = .returned (.bool true) ∧ Below w.heap.size w w' := by
  obtain ⟨Z, hZ⟩ : ∃ Z : Nat, Z = 640 := ⟨_, rfl⟩
  have hN : ∀ u, Calls Tryd.prog 11 #[.int .i64 10] u fun e u' => ∃ r, e = .returned (.pointer (some ⟨r, 0, none⟩)) ∧ u.heap.size ≤ r ∧ Dk u' r (Z : Int) (.slice none 0 0) 0 [] ∧ Below u.heap.size u u' := fun u => by
    subst hZ
    exact new_any 10 (by omega) u
  have HN := Lib.hid hN
  have HZ := Lib.hid hZ
  obtain ⟨p, hp⟩ : ∃ p : List UInt8, p = [97, 98] := ⟨_, rfl⟩
  obtain ⟨q, hq⟩ : ∃ q : List UInt8, q = [49, 50, 51, 52, 53] := ⟨_, rfl⟩
  have hcp : #[Value.int .u8 97, .int .u8 98] = (bys p).toArray := by rw [hp]; rfl
  have hcq : #[Value.int .u8 49, .int .u8 50, .int .u8 51, .int .u8 52, .int .u8 53] = (bys q).toArray := by rw [hq]; rfl
  have hpl : p.length = 2 := by rw [hp]; rfl
  have hql : q.length = 5 := by rw [hq]; rfl
  obtain ⟨P, hP⟩ : ∃ P, frm p = P := ⟨_, rfl⟩
  have hPl : P.length = 10 := by rw [← hP, frm_length, hpl]
  obtain ⟨hs1, hs2⟩ := scn_two (p := p) (t := q) (by omega) (by omega)
  rw [hP] at hs1 hs2
  rw [hPl] at hs2
  have hps : ((⟨p.toArray⟩ : ByteArray).toList == (⟨#[97, 98]⟩ : ByteArray).toList) = true := by rw [hp]; simp
  have HFP := Lib.hid (show fls [p] = P by rw [fls_one, hP])
  have HCP := Lib.hid hcp; have HCQ := Lib.hid hcq; have HPL := Lib.hid hpl; have HQL := Lib.hid hql
  have HP := Lib.hid hP; have HPN := Lib.hid hPl; have HS1 := Lib.hid hs1; have HS2 := Lib.hid hs2
  have HW := Lib.hid hw
  clear hN hZ hp hq hcp hcq hpl hql hP hPl hs1 hs2 hw
  have kc := fun (w : World) (C : Array Value) (n c : Nat) => Lib.run_convert_bytes_const (P := Tryd.prog) w 34 5 C n c Tryd.underlying34 Tryd.underlying5
  have HK := Lib.hid (Kg.start w)
  have T1 := True.intro
  go_enter Tryd.func10, Tryd.ntmps10
  go_wp2_with (first
    | (go_at_call 11; (with_reducible refine (HN.out _).mono ?_); rintro e u ⟨r, rfl, hr, hd, hb⟩; have hk := HK.out.newDisk hb hr hd; clear hr hd hb; clear HK; have HK := Lib.hid hk; clear hk)
    | (go_at_call 12; clear T1; (with_reducible refine (open_k HK.out HW.out 0 (Int.le_refl 0) rfl (by simp) [] scn_nil [] rfl 0 rfl tk_nil0).mono ?_); rintro e u ⟨rl, v1, v2, L, rfl, ht, hk⟩; obtain rfl := txt_none ht; simp only [List.set_cons_zero] at hk; clear ht HK; have HK := Lib.hid hk; clear hk)
    | (go_at_call 14; (with_reducible refine (append_k (HK.out.lit _ p HCP.out _) HW.out 0 1 rfl rfl (by decide) 0 rfl HPL.out (by decide) (by have := HZ.out; omega) (by have := HZ.out; simp; omega) (by simp) P HP.out 10 HPN.out).mono ?_); rintro e u ⟨rfl, v3, v4, A3, c3, hk⟩; simp only [List.set_cons_zero, List.set_cons_succ, List.nil_append] at hk; clear HK; have HK := Lib.hid hk; clear hk)
    | (go_at_call 24; (with_reducible refine (append_any _ Z _ _ P _ 5 _ q HQL.out (by have := HZ.out; omega) (by have := HZ.out; have := HPN.out; omega) _ ((HK.out.lit _ q HCQ.out _).bys 0 rfl) ((HK.out.lit _ q HCQ.out _).dk 1 rfl)).mono ?_); rintro e u ⟨rfl, v5, hd, hm⟩; have hk := (HK.out.lit _ q HCQ.out _).disk 1 rfl hm hd; simp only [List.set_cons_zero, List.set_cons_succ] at hk; clear hd hm; clear HK; have HK := Lib.hid hk; clear hk)
    | (go_at_call 12; (with_reducible refine (open_k HK.out HW.out 1 (Int.natCast_nonneg _) rfl (by have := HPN.out; have := HQL.out; simp; omega) [p] HS1.out P HFP.out 10 HPN.out HS2.out).mono ?_); rintro e u ⟨rl2, v6, v7, L2, rfl, ht, hk⟩; obtain ⟨A5, c5, rfl⟩ := txt_one ht; simp only [List.set_cons_zero, List.set_cons_succ] at hk; clear ht HK; have HK := Lib.hid hk; clear hk)
    | (go_at_call 18; (with_reducible refine (last_any _ _ _ [(A5, c5, p)] 0 rfl (by decide) A5 c5 p rfl (by have := HPL.out; omega) _ (HK.out.lo 0 rfl)).mono ?_); rintro e u ⟨A6, c6, ⟨rfl, _⟩, hk⟩; have hk := HK.out.makes hk; clear HK; have HK := Lib.hid hk; clear hk)
    | (go_at_call 21; (with_reducible refine (len_any _ _ _ [(A5, c5, p)] 1 rfl _ (HK.out.lo 0 rfl)).mono ?_); rintro e u ⟨rfl, rfl⟩)
    | (with_reducible refine to_str_want (HK.out.bys 0 rfl) rfl _ rfl rfl rfl ?_)
    | (with_reducible refine eq_str_want hps _ _ _ rfl rfl rfl rfl ?_)
    | (go_at_call 22; (with_reducible refine (bytes_n _ _ _ _ _ 10 HPN.out (by decide) _ (HK.out.dk 2 rfl)).mono ?_); rintro e u ⟨A7, c7, ⟨rfl, _⟩, hk⟩; have hk := HK.out.makes hk; clear HK; have HK := Lib.hid hk; clear hk))
  go_ret
  exact ⟨rfl, HK.out.mf.bel⟩
end Go.Proofs.YtnbhgnkkedainaaDoor
