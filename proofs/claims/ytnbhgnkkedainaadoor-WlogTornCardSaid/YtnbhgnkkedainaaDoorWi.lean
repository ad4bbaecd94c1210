/- Steps that come in; few. -/
import Derived.Test.YtnbhgnkkedainaaDoorWh
import Derived.Deep.Slices
namespace Go.Proofs.YtnbhgnkkedainaaDoor
open Go.ChangeShapes Go.WideShapes Go.ChangeAt Go.RowKit

/-- A slice of bytes, as one cell holds it. -/
theorem open_bc {H : Type} {enc : TypeId × Value → H} {W : World} {b fuel : Nat} {sp : Nat → Bool} {held : Bool} {v : Value} {x : DataW H × List MemPlace} (hf : DataW.trod enc Tryd.prog W b sp held fuel 34 [v] = some x) : ∃ A n c l, v = .slice A n c ∧ l.length = n ∧ n ≤ c ∧ c ≤ maxLen ∧ Bys W A l := by
  rcases open_ints Tryd.underlying34 Tryd.underlying5 (by kernel_rfl) hf with ⟨hcs, _⟩ | ⟨x, n, c, zs, hcs, _, hl, hm, hz, _, hcell, hwf⟩
  · simp at hcs
    subst hcs
    exact ⟨none, 0, 0, [], rfl, rfl, Nat.le_refl _, by simp, .inl rfl⟩
  · simp at hcs
    subst hcs
    have hnz : n ≤ zs.length := by rw [hz]; split <;> omega
    refine ⟨some x, n, _, (zs.take n).map fun z => UInt8.ofNat z.toNat, rfl, by simp; omega, hl, hm, ?_⟩
    rcases Nat.eq_zero_or_pos n with h0 | h0
    · left; rw [h0]; rfl
    · obtain ⟨b0, off, rfl, hc'⟩ := ints_at hcell (by omega)
      refine .inr ⟨b0, off, rfl, fun i hi => ?_⟩
      have hi' : i < n := by simp at hi; omega
      rw [hc' i (by omega)]
      have hz1 : i < zs.length := by omega
      have hw := hwf (zs.getD i 0) (by rw [List.getD_eq_getElem?_getD, List.getElem?_eq_getElem hz1]; exact List.getElem_mem hz1)
      have hw2 := u8_wf hw
      have e : ((zs.take n).map fun z => UInt8.ofNat z.toNat).getD i 0 = UInt8.ofNat (zs.getD i 0).toNat := by
        simp [List.getD, hi', hz1]
      rw [e, toNat_ofInt hw2.1 hw2.2]
/-- A step: what it is, its two numbers, its bytes. -/
structure Sp where
  vb : Int
  n : Int
  m : Int
  A : Option Addr
  c : Nat
  b : List UInt8
instance : Inhabited Sp := ⟨⟨0, 0, 0, none, 0, []⟩⟩
def Sp.cells (s : Sp) : List Value := [.int .i64 s.vb, .int .i64 s.n, .int .i64 s.m, .slice s.A s.b.length s.c]
theorem d_fields : (Tryd.prog.fieldsOf 36).toList.map (fun f => (f.type, f.offset)) = [(3, 0), (3, 1), (3, 2), (34, 3)] := by kernel_rfl
theorem d_under : Tryd.prog.underlying 36 = some (.struct (Tryd.prog.fieldsOf 36)) := by kernel_rfl
theorem fields4 {fs : List Field} {x y z v : TypeId × Nat} (h : fs.map (fun f => (f.type, f.offset)) = [x, y, z, v]) : ∃ f g k l, fs = [f, g, k, l] ∧ (f.type, f.offset) = x ∧ (g.type, g.offset) = y ∧ (k.type, k.offset) = z ∧ (l.type, l.offset) = v := by
  match fs, h with
  | [f, g, k, l], h => exact ⟨f, g, k, l, rfl, by simpa using h⟩
theorem open_do {H : Type} {enc : TypeId × Value → H} {W : World} {b : Nat} {sp : Nat → Bool} {held : Bool} {fuel : Nat} {c0 c1 c2 c3 : Value} {x : DataW H × List MemPlace} (h : DataW.trod enc Tryd.prog W b sp held fuel 36 [c0, c1, c2, c3] = some x) :
    ∃ s : Sp, [c0, c1, c2, c3] = s.cells ∧ Bys W s.A s.b ∧ s.b.length ≤ s.c := by
  have ci : Tryd.prog.cellsOf 3 = 1 := by kernel_rfl
  have cb : Tryd.prog.cellsOf 34 = 1 := by kernel_rfl
  obtain ⟨xs, m, _, _, _, hn, hel⟩ := DataW.trod_struct d_under h
  obtain ⟨f, g, k, l, hfs, e1, e2, e3, e4⟩ := fields4 d_fields
  injection e1 with e1a e1b
  injection e2 with e2a e2b
  injection e3 with e3a e3b
  injection e4 with e4a e4b
  have hfs' : Tryd.prog.fieldsOf 36 = #[f, g, k, l] := by apply Array.toList_inj.1; rw [hfs]
  rw [hfs'] at hel hn
  have hn4 : xs.length = 4 := by simpa using hn
  have d0 := hel 0 f rfl
  have d1 := hel 1 g rfl
  have d2 := hel 2 k rfl
  have d3 := hel 3 l rfl
  rw [e1a, e1b, ci, List.getElem?_eq_getElem (show 0 < xs.length by omega)] at d0
  rw [e2a, e2b, ci, List.getElem?_eq_getElem (show 1 < xs.length by omega)] at d1
  rw [e3a, e3b, ci, List.getElem?_eq_getElem (show 2 < xs.length by omega)] at d2
  rw [e4a, e4b, cb, List.getElem?_eq_getElem (show 3 < xs.length by omega)] at d3
  obtain ⟨n0, h0, _, _⟩ := DataW.trod_int Tryd.underlying3 d0
  obtain ⟨n1, h1, _, _⟩ := DataW.trod_int Tryd.underlying3 d1
  obtain ⟨n2, h2, _, _⟩ := DataW.trod_int Tryd.underlying3 d2
  obtain ⟨A, q, c, bl, h3, hl, hc, _, hb⟩ := open_bc (v := c3) (by simpa using d3)
  simp at h0 h1 h2
  subst h0; subst h1; subst h2; subst h3; subst hl
  exact ⟨⟨n0, n1, n2, A, c, bl⟩, rfl, hb, hc⟩
/-- A row of steps, as a slice reads it. -/
def Steps (w : World) (A : Option Addr) (n : Nat) (L : List Sp) : Prop :=
  L.length = n ∧ n ≤ maxLen ∧ (n = 0 ∨ ∃ b off : Nat, A = some ⟨b, off, none⟩ ∧ ∀ i s, L[i]? = some s → w.rangeAt b (off + i * 4) s.cells ∧ Bys w s.A s.b ∧ s.b.length ≤ s.c)
theorem open_steps {H : Type} {enc : TypeId × Value → H} {W : World} {b b' : Nat} {sp : Nat → Bool} {held : Bool} {v : Value} {d : DataW H} {p : List MemPlace} (hval : Value.okWide Tryd.prog W .any b' 22 v)
    (h : DataW.Trod enc Tryd.prog W b sp held 22 v d p) : ∃ A n c L, v = .slice A n c ∧ Steps W A n L := by
  have c4 : Tryd.prog.cellsOf 36 = 4 := by kernel_rfl
  obtain ⟨A, n, c, rfl⟩ := okWide_slice Tryd.underlying22 hval
  obtain ⟨fuel, hf⟩ := h
  rcases Deep.open_slice Tryd.underlying22 hf with ⟨hcs, _⟩ | ⟨a, len, cap, m, k, DD, Pl, hcs, _, hl, hm, hmm, _, hel⟩
  · simp [Value.cells] at hcs
    obtain ⟨rfl, rfl, rfl⟩ := hcs
    exact ⟨none, 0, 0, [], rfl, rfl, by simp, .inl rfl⟩
  · simp [Value.cells] at hcs
    obtain ⟨rfl, rfl, rfl⟩ := hcs
    have hlm : n ≤ m := by rw [hmm]; split <;> omega
    have hcell : ∀ i, i < n → ∃ s : Sp, (∀ j v, s.cells[j]? = some v → W.cell? (a.add (i * 4 + j)) = some v) ∧ Bys W s.A s.b ∧ s.b.length ≤ s.c := fun i hi => by
      obtain ⟨cs', h1, h2⟩ := hel i (by omega)
      rw [c4] at h1
      unfold World.cells? at h1
      split at h1
      · rw [show List.range 4 = [0, 1, 2, 3] from rfl] at h1
        simp only [List.mapM_cons, List.mapM_nil, Option.bind_eq_bind, Option.bind_eq_some_iff, Option.pure_def, Option.some.injEq] at h1
        obtain ⟨c0, h0, _, ⟨c1, h1', _, ⟨c2, h2', _, ⟨c3, h3', _, rfl, rfl⟩, rfl⟩, rfl⟩, rfl⟩ := h1
        obtain ⟨s, e, hb, hc⟩ := open_do h2
        refine ⟨s, fun j v hj => ?_, hb, hc⟩
        rw [← e] at hj
        rw [Deep.add_add] at h0 h1' h2' h3'
        match j, hj with
        | 0, hj => simp at hj; subst hj; exact h0
        | 1, hj => simp at hj; subst hj; exact h1'
        | 2, hj => simp at hj; subst hj; exact h2'
        | 3, hj => simp at hj; subst hj; exact h3'
        | j + 4, hj => simp at hj
      · cases h1
    obtain ⟨f, hfn⟩ := Deep.choose_lt hcell
    refine ⟨some a, n, c, (List.range n).map f, rfl, by simp, Nat.le_trans hl hm, ?_⟩
    rcases Nat.eq_zero_or_pos n with h0 | h0
    · exact .inl h0
    · right
      obtain ⟨b0, off, spot⟩ := a
      have hsp := World.cell?_spot ((hfn 0 h0).1 0 _ rfl)
      have hs2 : spot = none := by simpa [Addr.add] using hsp
      subst hs2
      refine ⟨b0, off, rfl, fun i s hs => ?_⟩
      have hi : i < n := by
        have := (List.getElem?_eq_some_iff.1 hs).1
        simpa using this
      simp only [List.getElem?_map, List.getElem?_range hi, Option.map_some, Option.some.injEq] at hs
      subst hs
      obtain ⟨h1, h2, h3⟩ := hfn i hi
      refine ⟨fun j v hj => ?_, h2, h3⟩
      have := h1 j v hj
      rw [Go.WideShapes.add_plain] at this
      rw [Nat.add_assoc]
      exact this
theorem Steps.below {w w' : World} {A : Option Addr} {n : Nat} {L : List Sp} (h : Steps w A n L) (hb : Below w.heap.size w w') : Steps w' A n L := by
  obtain ⟨h1, h0, h2⟩ := h
  refine ⟨h1, h0, h2.imp_right fun ⟨b, off, e, hc⟩ => ⟨b, off, e, fun i s hs => ?_⟩⟩
  obtain ⟨h3, h4, h5⟩ := hc i s hs
  refine ⟨fun j v hv => ?_, h4.below hb, h5⟩
  rw [hb.cell (p := ⟨b, off + i * 4 + j, none⟩) (cell_lt (h3 j v hv))]
  exact h3 j v hv
theorem Steps.one {w : World} {A : Option Addr} {n : Nat} {L : List Sp} (h : Steps w A n L) {k : Nat} (hk : k < n) : ∃ b off s, A = some ⟨b, off, none⟩ ∧ L[k]? = some s ∧ w.rangeAt b (off + k * 4) s.cells ∧ Bys w s.A s.b ∧ s.b.length ≤ s.c := by
  obtain ⟨h1, _, h2⟩ := h
  rcases h2 with h2 | ⟨b, off, rfl, h3⟩
  · omega
  · have hx : L[k]? = some (L[k]'(by omega)) := List.getElem?_eq_getElem (by omega)
    obtain ⟨h4, h5, h6⟩ := h3 k _ hx
    exact ⟨b, off, _, rfl, hx, h4, h5, h6⟩
section
variable {ops : Array Oper} {rest : List Oper} {o : Oper} {a : Act} {u : World} {Q : Exit → Act → World → Prop}
/-- All of a struct that lay there is loaded. -/
theorem load_at {ty : TypeId} {d : TypeDesc} (hu : Tryd.prog.underlying ty = some d) (hd : d.isRow = true) {cs : List Value} {N : Nat} (hs : (Tryd.prog.info? ty).map (·.size) = some N) {b off : Nat} (hr : u.rangeAt b off cs) (hl : cs.length = N)
    (x : Operand) (ho : o.op = .load ty x) (hx : a.eval x = .pointer (some ⟨b, off, none⟩)) (hw : Region.wanted o (yielded ops a.tmps) = true)
    (h : wpList Tryd.prog ops Q rest (a.put o.dst (.agg cs.toArray)) u) : wpList Tryd.prog ops Q (o :: rest) a u :=
  BigFrame.wpList_want hw fun _ hK => wp_load_mid ty x ho b off hx cs d hr hu hd (by rw [hl]; exact hs) (hK _ _ h)
end
theorem Below.rangeAt {B : Nat} {w w' : World} (hb : Below B w w') {b o : Nat} {cs : List Value} (h : w.rangeAt b o cs) (hl : b < B) : w'.rangeAt b o cs := fun j v hv => by
  rw [hb.cell (p := ⟨b, o + j, none⟩) hl]; exact h j v hv
theorem d_info : (Tryd.prog.info? 36).map (·.size) = some 4 := by kernel_rfl
theorem d_zero : (Tryd.prog.info? 36).bind (·.zero) = some (.agg [.int .i64 0, .int .i64 0, .int .i64 0, .slice none 0 0].toArray) := by kernel_rfl
/-- May these steps be gone through? -/
def okS (s : Sp) : Prop := s.b.length ≤ 300 ∨ 32768 < s.b.length
def Few (a : Int) (n : Nat) (L : List Sp) : Prop := n ≤ 20 ∧ 0 ≤ a ∧ a ≤ 16384 ∧ ∀ s ∈ L, okS s
/-- What few ends with. -/
def FewEnd (a : Int) (n : Nat) (L : List Sp) (w : World) (e : Ending) (w' : World) : Prop := ∃ bo : Bool, e = .returned (.bool bo) ∧ (bo = true ↔ Few a n L) ∧ Below w.heap.size w w'
theorem few_any (a : Int) (A : Option Addr) (n c : Nat) (L : List Sp) (w : World) (h : Steps w A n L) :
    Calls Tryd.prog 9 #[.int .i64 a, .slice A n c] w (FewEnd a n L w) := by
  have HS := Lib.hid h
  have HL := Lib.hid h.1
  have hmx : n ≤ 9223372036854775807 := h.2.1
  clear h
  have HK := Lib.hid (Kg.start w)
  go_enter Tryd.func9, Tryd.ntmps9
  go_wp2
  go_loopw [9] (fun i wr => ∃ m : Nat, m ≤ n ∧ i = .int .i64 (m : Int) ∧ (∀ j, j < m → okS (L.getD j default)) ∧ Kg w (fun _ => False) [] [] wr) (fun i _ => n - (intOf i).toNat)
  case atStart => exact ⟨0, by omega, rfl, fun j hj => absurd hj (by omega), HK.out⟩
  case round =>
    obtain ⟨m, hm, rfl, hall, hk⟩ := hrel
    clear HK
    have HK := Lib.hid hk; have HA := Lib.hid hall
    clear hk hall
    by_cases hlt : m < n
    · obtain ⟨b, off, s, hA, hs, hr, _, _⟩ := HS.out.one hlt
      subst hA
      have hrr := Below.rangeAt HK.out.mf.bel hr (cell_lt (hr 0 _ rfl))
      have HR := Lib.hid hrr
      have hsd : L.getD m default = s := by rw [List.getD_eq_getElem?_getD, hs]; rfl
      have i1 : (0 : Int) ≤ (m : Int) := by omega
      have i2 : (m : Int) < (n : Int) := by omega
      have HSD := Lib.hid hsd
      have HSM := Lib.hid hs
      clear hs hr hrr hsd
      obtain ⟨vb, sn, sm, sA, sc, sb⟩ := s
      simp only [Sp.cells] at HR
      by_cases h4 : 300 < sb.length
      · have i3 : (300 : Int) < (sb.length : Int) := by omega
        have i4 : decide ((300 : Int) < (sb.length : Int)) = true := by simp; omega
        by_cases h5 : sb.length ≤ 32768
        · have i5 : (sb.length : Int) ≤ 32768 := by omega
          have HNO := Lib.hid (show ¬ Few a n L from fun hp => by
            have h6 := hp.2.2.2 _ (List.mem_of_getElem? HSM.out)
            simp only [okS] at h6
            omega)
          clear HSD HSM
          generalize sb.length = k at *
          go_wp2_with (first
            | (with_reducible refine load_at Tryd.underlying36 rfl d_info HR.out rfl _ rfl rfl rfl ?_)
            | ((with_reducible refine alloc_k HK.out d_zero rfl rfl ?_); intro b2 u hk; clear HK; have HK := Lib.hid hk; clear hk)
            | ((with_reducible refine store_kr (xs := [.int .i64 vb, .int .i64 sn, .int .i64 sm, .slice sA k sc]) HK.out 0 d_info rfl rfl _ _ rfl rfl rfl rfl (by simp) (by simp) (by simp [Value.oneCell']) ?_); intro u hk; simp only [List.set_cons_zero] at hk; clear HK; have HK := Lib.hid hk; clear hk)
            | (with_reducible refine load_k1 HK.out 0 rfl _ rfl rfl rfl rfl rfl ?_))
          go_ret
          exact ⟨false, rfl, ⟨(fun h => by cases h), fun h => absurd h HNO.out⟩, HK.out.mf.bel⟩
        · have i5 : ¬ (sb.length : Int) ≤ 32768 := by omega
          have i6 : decide ((sb.length : Int) ≤ 32768) = false := by simp; omega
          have HQ := Lib.hid (show ∀ j, j < m + 1 → okS (L.getD j default) from fun j hj => by
            by_cases hjm : j = m
            · subst hjm; rw [HSD.out]; simp only [okS]; omega
            · exact HA.out j (by omega))
          clear HSD HA HSM
          generalize sb.length = k at *
          go_wp2_with (first
            | (with_reducible refine load_at Tryd.underlying36 rfl d_info HR.out rfl _ rfl rfl rfl ?_)
            | ((with_reducible refine alloc_k HK.out d_zero rfl rfl ?_); intro b2 u hk; clear HK; have HK := Lib.hid hk; clear hk)
            | ((with_reducible refine store_kr (xs := [.int .i64 vb, .int .i64 sn, .int .i64 sm, .slice sA k sc]) HK.out 0 d_info rfl rfl _ _ rfl rfl rfl rfl (by simp) (by simp) (by simp [Value.oneCell']) ?_); intro u hk; simp only [List.set_cons_zero] at hk; clear HK; have HK := Lib.hid hk; clear hk)
            | (with_reducible refine load_k1 HK.out 0 rfl _ rfl rfl rfl rfl rfl ?_))
          go_roundw
          case rel => exact ⟨m + 1, by omega, by go_num, HQ.out, HK.out.tail⟩
          case measure => simp [intOf]; omega
      · have i3 : ¬ (300 : Int) < (sb.length : Int) := by omega
        have i4 : decide ((300 : Int) < (sb.length : Int)) = false := by simp; omega
        have HQ := Lib.hid (show ∀ j, j < m + 1 → okS (L.getD j default) from fun j hj => by
          by_cases hjm : j = m
          · subst hjm; rw [HSD.out]; simp only [okS]; omega
          · exact HA.out j (by omega))
        clear HSD HA HSM
        generalize sb.length = k at *
        go_wp2_with (first
          | (with_reducible refine load_at Tryd.underlying36 rfl d_info HR.out rfl _ rfl rfl rfl ?_)
          | ((with_reducible refine alloc_k HK.out d_zero rfl rfl ?_); intro b2 u hk; clear HK; have HK := Lib.hid hk; clear hk)
          | ((with_reducible refine store_kr (xs := [.int .i64 vb, .int .i64 sn, .int .i64 sm, .slice sA k sc]) HK.out 0 d_info rfl rfl _ _ rfl rfl rfl rfl (by simp) (by simp) (by simp [Value.oneCell']) ?_); intro u hk; simp only [List.set_cons_zero] at hk; clear HK; have HK := Lib.hid hk; clear hk)
          | (with_reducible refine load_k1 HK.out 0 rfl _ rfl rfl rfl rfl rfl ?_))
        go_roundw
        case rel => exact ⟨m + 1, by omega, by go_num, HQ.out, HK.out.tail⟩
        case measure => simp [intOf]; omega
    · obtain rfl : m = n := by omega
      have HQ := Lib.hid (show ∀ s ∈ L, okS s from fun s hs => by
        obtain ⟨j, hj⟩ := List.mem_iff_getElem?.1 hs
        have h1 := (List.getElem?_eq_some_iff.1 hj).1
        have := HA.out j (by have := HL.out; omega)
        rwa [List.getD_eq_getElem?_getD, hj] at this)
      clear HA
      by_cases e1 : m ≤ 20
      · have j1 : (m : Int) ≤ 20 := by omega
        have j2 : decide ((m : Int) ≤ 20) = true := by simp; omega
        by_cases e2 : 0 ≤ a
        · have j3 : decide (0 ≤ a) = true := by simp; omega
          go_wp2
          go_ret
          exact ⟨_, rfl, ⟨fun h => ⟨e1, e2, by simpa using h, HQ.out⟩, fun h => by simpa using h.2.2.1⟩, HK.out.mf.bel⟩
        · have j3 : decide (0 ≤ a) = false := by simp; omega
          go_wp2
          go_ret
          exact ⟨false, rfl, ⟨(fun h => by cases h), fun h => absurd h.2.1 (by omega)⟩, HK.out.mf.bel⟩
      · have j1 : ¬ (m : Int) ≤ 20 := by omega
        have j2 : decide ((m : Int) ≤ 20) = false := by simp; omega
        go_wp2
        go_ret
        exact ⟨false, rfl, ⟨(fun h => by cases h), fun h => absurd h.1 e1⟩, HK.out.mf.bel⟩
theorem few_yes (a : Int) (A : Option Addr) (n c : Nat) (L : List Sp) (w : World) (h : Steps w A n L) (hp : Few a n L) :
    Calls Tryd.prog 9 #[.int .i64 a, .slice A n c] w fun e w' => e = .returned (.bool true) ∧ Below w.heap.size w w' :=
  (few_any a A n c L w h).mono fun _ _ ⟨bo, he, hb, hw⟩ => by
    have := hb.2 hp
    subst this
    exact ⟨he, hw⟩
theorem few_no (a : Int) (A : Option Addr) (n c : Nat) (L : List Sp) (w : World) (h : Steps w A n L) (hp : ¬ Few a n L) :
    Calls Tryd.prog 9 #[.int .i64 a, .slice A n c] w fun e w' => e = .returned (.bool false) ∧ Below w.heap.size w w' :=
  (few_any a A n c L w h).mono fun _ _ ⟨bo, he, hb, hw⟩ => by
    have h1 : bo = false := by cases bo; rfl; exact absurd (hb.1 rfl) hp
    subst h1
    exact ⟨he, hw⟩
end Go.Proofs.YtnbhgnkkedainaaDoor
