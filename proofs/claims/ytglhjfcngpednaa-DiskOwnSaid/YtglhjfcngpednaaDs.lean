/- few and awake; what a call that makes bytes of a known length ends with. -/
import Derived.Test.YtglhjfcngpednaaSt
namespace Go.Proofs.Ytglhjfcngpednaa
open Go.ChangeShapes Go.WideShapes Go.ChangeAt Go.RowKit

section
variable {ops : Array Oper} {rest : List Oper} {o : Oper} {a : Act} {w u : World} {F : Nat → Prop} {l : List (Nat × TypeId × List Value)} {ds : List Ent} {rows : List (Option Addr × List UInt8)} {Q : Exit → Act → World → Prop} {K : Act → World → Prop} {S : World → Prop}
/-- All of a struct that lay there is loaded. -/
theorem load_at {ty : TypeId} {d : TypeDesc} (hu : Try.prog.underlying ty = some d) (hd : d.isRow = true) {cs : List Value} {N : Nat} (hs : (Try.prog.info? ty).map (·.size) = some N) {b off : Nat} (hr : u.rangeAt b off cs) (hl : cs.length = N)
    (x : Operand) (ho : o.op = .load ty x) (hx : a.eval x = .pointer (some ⟨b, off, none⟩)) (hw : Region.wanted o (yielded ops a.tmps) = true)
    (h : wpList Try.prog ops Q rest (a.put o.dst (.agg cs.toArray)) u) : wpList Try.prog ops Q (o :: rest) a u :=
  BigFrame.wpList_want hw fun _ hK => wp_load_mid ty x ho b off hx cs d hr hu hd (by rw [hl]; exact hs) (hK _ _ h)
/-- A row of zeros is made. -/
theorem make_k (hk : Kf w F l ds rows u) (n : Nat) (hn : n ≤ 1048576) (hgd : o.guard = none) (x y : Operand) (ho : o.op = .makeSlice 27 x y) (hx : a.eval x = .int .i64 (n : Int)) (hy : a.eval y = .int .i64 (n : Int))
    (h : ∀ A m u', m.length = n → Kf w F l ds ((A, m) :: rows) u' → wpList Try.prog ops Q rest (a.put o.dst (.slice A n n)) u') : wpList Try.prog ops Q (o :: rest) a u :=
  make_bys n hn hgd x y ho hx hy (by
    have h1 := ko_new u (bys (zs n)).toArray (zs n) rfl (by rw [zs_length]; simp only [maxLen]; omega)
    rw [zs_length] at h1
    exact h _ _ _ (zs_length n) (hk.makes h1))
end
theorem Below.rangeAt {B : Nat} {w w' : World} (hb : Below B w w') {b o : Nat} {cs : List Value} (h : w.rangeAt b o cs) (hl : b < B) : w'.rangeAt b o cs := fun j v hv => by
  rw [hb.cell (p := ⟨b, o + j, none⟩) hl]; exact h j v hv
/-- What a call that makes so many bytes ends with. -/
def MakesN (w : World) (n : Nat) (l : List UInt8) (e : Ending) (w' : World) : Prop := ∃ A c, (e = .returned (.slice A n c) ∧ n ≤ c) ∧ KO w (.slice A n c) l w'
theorem Makes.n {w : World} {l : List UInt8} {n : Nat} (hn : l.length = n) {e : Ending} {w' : World} (h : Makes w l e w') : MakesN w n l e w' := by subst hn; exact h
theorem bytes_n (r : Nat) (z f : Int) (v : Value) (d : List UInt8) (n : Nat) (hn : d.length = n) (hm : n ≤ 1048576) (w : World) (h : Dk w r z v f d) : Calls Try.prog 13 #[.pointer (some ⟨r, 0, none⟩)] w (MakesN w n d) :=
  (bytes_any r z f v d w h (by omega)).mono fun _ _ h => h.n hn
/-- What few ends with. -/
def FewEnd (n : Nat) (L : List Sp) (w : World) (e : Ending) (w' : World) : Prop := ∃ bo : Bool, e = .returned (.bool bo) ∧ (bo = true ↔ (n ≤ 30 ∧ ∀ s ∈ L, s.b.length ≤ 400)) ∧ Below w.heap.size w w'
theorem few_any (A : Option Addr) (n c : Nat) (L : List Sp) (w : World) (h : Steps w A n L) :
    Calls Try.prog 10 #[.slice A n c] w (FewEnd n L w) := by
  have HS := Lib.hid h
  have HL := Lib.hid h.1
  have hmx : n ≤ 9223372036854775807 := h.2.1
  clear h
  have HK := Lib.hid (Kf.start w)
  go_enter Try.func10, Try.ntmps10
  go_wp2
  go_loopw [7] (fun i wr => ∃ m : Nat, m ≤ n ∧ i = .int .i64 (m : Int) ∧ (∀ j, j < m → (L.getD j default).b.length ≤ 400) ∧ Kf w (fun _ => False) [] [] [] wr) (fun i _ => n - (intOf i).toNat)
  case atStart => exact ⟨0, by omega, rfl, fun j hj => absurd hj (by omega), HK.out⟩
  case round =>
    obtain ⟨m, hm, rfl, hall, hk⟩ := hrel
    clear HK
    have HK := Lib.hid hk; have HA := Lib.hid hall
    clear hk hall
    by_cases hlt : m < n
    · obtain ⟨b, off, s, hA, hs, hr, _, _⟩ := HS.out.one hlt
      subst hA
      have hrr := Below.rangeAt HK.out.mf.bel hr (cell_lt (hr 0 _ rfl))
      have HR := Lib.hid hrr
      have hsd : L.getD m default = s := by rw [List.getD_eq_getElem?_getD, hs]; rfl
      have i1 : (0 : Int) ≤ (m : Int) := by omega
      have i2 : (m : Int) < (n : Int) := by omega
      have HSD := Lib.hid hsd
      have HSM := Lib.hid hs
      clear hs hr hrr hsd
      obtain ⟨vb, sn, sm, sA, sc, sb⟩ := s
      simp only [Sp.cells] at HR
      by_cases h4 : 400 < sb.length
      · have i3 : (400 : Int) < (sb.length : Int) := by omega
        have i4 : decide ((400 : Int) < (sb.length : Int)) = true := by simp; omega
        have HNO := Lib.hid (show ¬ (n ≤ 30 ∧ ∀ s ∈ L, s.b.length ≤ 400) from fun hp => by
          have h5 := hp.2 _ (List.mem_of_getElem? HSM.out)
          simp only at h5
          omega)
        clear HSD HSM
        generalize sb.length = k at *
        go_wp2_with (first
          | (with_reducible refine load_at Try.underlying31 rfl s_info HR.out rfl _ rfl rfl rfl ?_)
          | ((with_reducible refine alloc_k HK.out rfl s_zero rfl rfl rfl ?_); intro b2 u hk; clear HK; have HK := Lib.hid hk; clear hk)
          | ((with_reducible refine store_kr (xs := [.int .i64 vb, .int .i64 sn, .int .i64 sm, .slice sA k sc]) HK.out 0 s_info rfl rfl _ _ rfl rfl rfl rfl (by simp) (by simp) (by simp [noU, isU]) (by simp [Value.oneCell']) ?_); intro u hk; simp only [List.set_cons_zero] at hk; clear HK; have HK := Lib.hid hk; clear hk)
          | (with_reducible refine load_k1 HK.out 0 rfl _ rfl rfl rfl rfl rfl ?_))
        go_ret
        exact ⟨false, rfl, ⟨(fun h => by cases h), fun h => absurd h HNO.out⟩, HK.out.mf.bel⟩
      · have i3 : ¬ (400 : Int) < (sb.length : Int) := by omega
        have i4 : decide ((400 : Int) < (sb.length : Int)) = false := by simp; omega
        have HQ := Lib.hid (show ∀ j, j < m + 1 → (L.getD j default).b.length ≤ 400 from fun j hj => by
          by_cases hjm : j = m
          · subst hjm; rw [HSD.out]; simp only; omega
          · exact HA.out j (by omega))
        clear HSD HA HSM
        generalize sb.length = k at *
        go_wp2_with (first
          | (with_reducible refine load_at Try.underlying31 rfl s_info HR.out rfl _ rfl rfl rfl ?_)
          | ((with_reducible refine alloc_k HK.out rfl s_zero rfl rfl rfl ?_); intro b2 u hk; clear HK; have HK := Lib.hid hk; clear hk)
          | ((with_reducible refine store_kr (xs := [.int .i64 vb, .int .i64 sn, .int .i64 sm, .slice sA k sc]) HK.out 0 s_info rfl rfl _ _ rfl rfl rfl rfl (by simp) (by simp) (by simp [noU, isU]) (by simp [Value.oneCell']) ?_); intro u hk; simp only [List.set_cons_zero] at hk; clear HK; have HK := Lib.hid hk; clear hk)
          | (with_reducible refine load_k1 HK.out 0 rfl _ rfl rfl rfl rfl rfl ?_))
        go_roundw
        case rel => exact ⟨m + 1, by omega, by go_num, HQ.out, HK.out.bare⟩
        case measure => simp [intOf]; omega
    · obtain rfl : m = n := by omega
      have HQ := Lib.hid (show ∀ s ∈ L, s.b.length ≤ 400 from fun s hs => by
        obtain ⟨j, hj⟩ := List.mem_iff_getElem?.1 hs
        have h1 := (List.getElem?_eq_some_iff.1 hj).1
        have := HA.out j (by have := HL.out; omega)
        rwa [List.getD_eq_getElem?_getD, hj] at this)
      clear HA
      go_wp2
      go_ret
      exact ⟨_, rfl, ⟨fun h => ⟨by simp at h; omega, HQ.out⟩, fun h => by have := h.1; simp; omega⟩, HK.out.mf.bel⟩
theorem few_yes (A : Option Addr) (n c : Nat) (L : List Sp) (w : World) (h : Steps w A n L) (hp : n ≤ 30 ∧ ∀ s ∈ L, s.b.length ≤ 400) :
    Calls Try.prog 10 #[.slice A n c] w fun e w' => e = .returned (.bool true) ∧ Below w.heap.size w w' :=
  (few_any A n c L w h).mono fun _ _ ⟨bo, he, hb, hw⟩ => by
    have := hb.2 hp
    subst this
    exact ⟨he, hw⟩
theorem few_no (A : Option Addr) (n c : Nat) (L : List Sp) (w : World) (h : Steps w A n L) (hp : ¬ (n ≤ 30 ∧ ∀ s ∈ L, s.b.length ≤ 400)) :
    Calls Try.prog 10 #[.slice A n c] w fun e w' => e = .returned (.bool false) ∧ Below w.heap.size w w' :=
  (few_any A n c L w h).mono fun _ _ ⟨bo, he, hb, hw⟩ => by
    have h1 : bo = false := by cases bo; rfl; exact absurd (hb.1 rfl) hp
    subst h1
    exact ⟨he, hw⟩
set_option maxRecDepth 100000 in
theorem awake_any (w : World) : Calls Try.prog 11 #[] w fun e w' => e = .returned (.bool true) ∧ Below w.heap.size w w' := by
  obtain ⟨Z, hZ⟩ : ∃ Z : Nat, Z = 640 := ⟨_, rfl⟩
  have hN : ∀ u, Calls Try.prog 9 #[.int .i64 10] u fun e u' => ∃ r, e = .returned (.pointer (some ⟨r, 0, none⟩)) ∧ u.heap.size ≤ r ∧ Dk u' r (Z : Int) (.slice none 0 0) 0 [] ∧ Below u.heap.size u u' := fun u => by
    subst hZ
    exact new_any 10 (by omega) u
  have HN := Lib.hid hN
  clear hN
  have HZ := Lib.hid hZ
  have hz : (Z : Int) = 640 := by omega
  have HZ2 := Lib.hid hz
  clear hz hZ
  obtain ⟨C, hC⟩ : ∃ C : Nat, C = 197 := ⟨_, rfl⟩
  have HC := Lib.hid hC
  clear hC
  have HK := Lib.hid (Kf.start w)
  have T1 := True.intro
  go_enter Try.func11, Try.ntmps11
  go_wp2_with (first
    | (go_at_call 9; (with_reducible refine (HN.out _).mono ?_); rintro e u ⟨r, rfl, hr, hd, hb⟩; have hk := HK.out.newDisk hb hr hd; clear hr hd hb; clear HK; have HK := Lib.hid hk; clear hk)
    | (clear T1; (with_reducible refine make_k HK.out 100 (by omega) rfl _ _ rfl rfl rfl ?_); intro A1 m1 u hm1 hk; have HM1 := Lib.hid hm1; clear hm1; clear HK; have HK := Lib.hid hk; clear hk; have T2 := True.intro)
    | (go_at_call 17; clear T2; (with_reducible refine (append_any r Z _ _ _ A1 100 100 m1 HM1.out (by have := HZ.out; omega) (by have := HZ.out; simp; omega) _ (HK.out.rowAt 0 rfl) (HK.out.dk 0 rfl)).mono ?_); rintro e u ⟨rfl, v1, hd, hm⟩; have hk := HK.out.disk 0 rfl hm hd; simp only [List.set_cons_zero, List.nil_append] at hk; clear hd hm; clear HK; have HK := Lib.hid hk; clear hk)
    | (go_at_call 18; (with_reducible refine (sync_any r _ _ _ _ 100 HM1.out _ (HK.out.dk 0 rfl)).mono ?_); rintro e u ⟨rfl, hd, hm⟩; have hk := HK.out.disk 0 rfl hm hd; simp only [List.set_cons_zero] at hk; clear hd hm; clear HK; have HK := Lib.hid hk; clear hk)
    | ((with_reducible refine make_k HK.out 200 (by omega) rfl _ _ rfl rfl rfl ?_); intro A2 m2 u hm2 hk; have HM2 := Lib.hid hm2; clear hm2; clear HK; have HK := Lib.hid hk; clear hk)
    | (go_at_call 17; (with_reducible refine (append_any r Z _ _ _ A2 200 200 m2 HM2.out (by have := HZ.out; omega) (by have := HZ.out; have := HM1.out; omega) _ (HK.out.rowAt 0 rfl) (HK.out.dk 0 rfl)).mono ?_); rintro e u ⟨rfl, v2, hd, hm⟩; have hk := HK.out.disk 0 rfl hm hd; simp only [List.set_cons_zero] at hk; clear hd hm; clear HK; have HK := Lib.hid hk; clear hk)
    | (go_at_call 16; have HL := Lib.hid (show (m1 ++ m2).length = 300 by have := HM1.out; have := HM2.out; rw [List.length_append]; omega); (refine (crash_any r Z 100 _ _ 2 5 (by rw [HL.out]; omega) (by rw [HL.out]; omega) _ (HK.out.dk 0 rfl)).mono ?_); rintro e u ⟨rfl, v3, hd, hm⟩; rw [HL.out, show cr 100 300 2 5 = C by rw [HC.out]; decide] at hd; have hk := HK.out.disk 0 rfl hm hd; simp only [List.set_cons_zero] at hk; have hq : ((m1 ++ m2).take C).length = C := (by rw [List.length_take, HL.out, HC.out]; decide); have HQ := Lib.hid hq; clear hd hm hq; generalize (m1 ++ m2).take C = D at *; clear HK; have HK := Lib.hid hk; clear hk; have hc : (C : Int) = 197 := (by have := HC.out; omega); have hz := HZ2.out)
    | (go_at_call 14; (with_reducible refine (safe_any r _ _ _ _ _ (HK.out.dk 0 rfl)).mono ?_); rintro e u ⟨rfl, rfl⟩)
    | (go_at_call 13; (with_reducible refine (bytes_n r _ _ _ _ C HQ.out (by have := HC.out; omega) _ (HK.out.dk 0 rfl)).mono ?_); rintro e u ⟨A3, c3, ⟨rfl, _⟩, hk⟩; have hk := HK.out.makes hk; clear HK; have HK := Lib.hid hk; clear hk)
    | (go_at_call 15; (refine (room_any r _ _ _ _ _ (HK.out.dk 0 rfl) C HQ.out (by have := HC.out; have := HZ2.out; omega) (by have := HZ2.out; omega)).mono ?_); rintro e u ⟨rfl, q, rfl⟩; have hk := HK.out.drewN q; clear HK; have HK := Lib.hid hk; clear hk))
  go_ret
  exact ⟨rfl, HK.out.mf.bel⟩
end Go.Proofs.Ytglhjfcngpednaa
