/- Drafts that are asked; a field that is built; plan.makes.; The library's sort at fields: a row of fields is in order of names behind it. -/
import Derived.Test.YtgblnlpfgdbnnaaGreatZ31A
import Derived.Test.YtgblnlpfgdbnnaaGreatZ32A
namespace Go.Proofs.YtgblnlpfgdbnnaaGreat
set_option maxRecDepth 100000
open Go.ChangeShapes Go.WideShapes Go.ChangeAt Go.RowKit

/-- A slice of drafts reads so. -/
def DS (w : World) (A : Option Addr) (n : Nat) (l : List Dr) : Prop := l.length = n ∧ (n = 0 ∨ ∃ b off : Nat, A = some ⟨b, off, none⟩ ∧ ∀ i s, l[i]? = some s → w.rangeAt b (off + i * 5) s.cells)
theorem DS.base {w : World} {A : Option Addr} {n : Nat} {l : List Dr} (h : DS w A n l) (hn : n ≠ 0) : ∃ b off : Nat, A = some ⟨b, off, none⟩ ∧ ∀ i s, l[i]? = some s → w.rangeAt b (off + i * 5) s.cells := h.2.resolve_left hn
theorem DS.get {w : World} {A : Option Addr} {n : Nat} {l : List Dr} (h : DS w A n l) {i : Nat} (hi : i < n) : ∃ s, l[i]? = some s := ⟨_, List.getElem?_eq_getElem (by rw [h.1]; exact hi)⟩
theorem og_dr {u : World} {A : Option Addr} {n c base : Nat} {l : List Dr} (h : u.ownsRow base 114 5 (.slice A n c) l.length (dcs l)) : DS u A l.length l := by
  refine ⟨rfl, ?_⟩
  by_cases h0 : l.length = 0
  · exact .inl h0
  · obtain ⟨s0, hs0⟩ : ∃ s0, l[0]? = some s0 := ⟨_, List.getElem?_eq_getElem (by omega)⟩
    have hc0 : (dcs l)[0 * 5 + 0]? = some (.string s0.nm) := dcs_get hs0 0 _ Dr.c0
    obtain ⟨g, rfl, _, _⟩ := og_cell h hc0
    refine .inr ⟨g, 0, rfl, fun i s hs j v hv => ?_⟩
    have hcj : (dcs l)[i * 5 + j]? = some v := dcs_get hs j v hv
    obtain ⟨g', e, hc, _⟩ := og_cell h hcj
    have e2 : g = g' := congrArg (fun a : Option Addr => a.elim 0 Addr.block) e
    rw [Nat.zero_add, e2]
    exact hc
theorem DS.at0 {w : World} {b off n : Nat} {l : List Dr} (h : DS w (some ⟨b, off, none⟩) n l) (hn : n ≠ 0) : b < w.heap.size := by
  obtain ⟨b', off', e, hr⟩ := h.base hn
  injection e with e; injection e with e1 e2
  subst e1; subst e2
  obtain ⟨s, hs⟩ := h.get (i := 0) (by omega)
  exact cell_lt (a := ⟨b, off + 0 * 5 + 0, none⟩) (hr 0 s hs 0 _ Dr.c0)
def Th.dr (A : Option Addr) (n : Nat) (l : List Dr) : Th :=
  ⟨fun k => n ≠ 0 ∧ ∃ a, A = some a ∧ a.block = k, fun u => DS u A n l, fun {u u'} h hb => by
    obtain ⟨h1, h2⟩ := h
    refine ⟨h1, ?_⟩
    rcases h2 with h2 | ⟨b, off, rfl, h2⟩
    · exact .inl h2
    · by_cases hn : n = 0
      · exact .inl hn
      · exact .inr ⟨b, off, rfl, fun i s hs => rng_stay (h2 i s hs) (hb b ⟨hn, _, rfl, rfl⟩)⟩, fun {u k} h hk => by
    obtain ⟨hn, a, ha, rfl⟩ := hk
    obtain ⟨b, off, rfl, _⟩ := h.base hn
    injection ha with ha
    subst ha
    exact h.at0 hn⟩
theorem Kg.dr {w u : World} {F : Nat → Prop} {own ro : List Th} (h : Kg w F own ro u) (i : Nat) {A : Option Addr} {n : Nat} {l : List Dr} (hi : ro[i]? = some (Th.dr A n l)) : DS u A n l := h.see i hi
theorem Kg.drMade {w u u' : World} {F : Nat → Prop} {own ro : List Th} (h : Kg w F own ro u) {v : Value} {l : List Dr} (ho : OD u v l u') : ∃ A c, v = .slice A l.length c ∧ Kg w F own (Th.dr A l.length l :: ro) u' := by
  obtain ⟨A, c, rfl⟩ := og_len ho.own
  refine ⟨A, c, rfl, h.made ho.bel (t := Th.dr A l.length l) (og_dr ho.own) fun k hk => ?_⟩
  obtain ⟨_, a, ha, rfl⟩ := hk
  refine (row_lt ho.own ?_).2
  subst ha; rfl
def greatB (d : Dr) : Bool := !(isB d.v) || (!(isB d.lo) || (!(isB d.hi) || !(isB (d.hi - d.lo))))
def beyondB (d : Dr) : Bool := (d.k == 1) && (decide (d.v < d.lo) || decide (d.hi < d.v))
theorem great_any (d : Dr) (w : World) : Calls Tryz.prog 87 #[.agg d.cells.toArray] w fun e w' => e = .returned (.bool (greatB d)) ∧ Below w.heap.size w w' := by
  have HK := Lib.hid (Kg.start w)
  have hv := fun w => is_eq d.v _ rfl w
  have hl := fun w => is_eq d.lo _ rfl w
  have hh := fun w => is_eq d.hi _ rfl w
  have hf := fun w => is_eq (d.hi - d.lo) _ rfl w
  cases h1 : isB d.v with
  | false =>
    rw [h1] at hv
    have HT := Lib.hid (show greatB d = true by simp [greatB, h1])
    go_enter Tryz.func87, Tryz.ntmps87
    go_wp2_with (first
      | ((with_reducible refine box_k (cs := d.cells) HK.out rfl _ rfl rfl ?_); intro b1 u hk; clear HK; have HK := Lib.hid hk; clear hk)
      | (with_reducible refine load_k1 HK.out 0 ckI _ rfl rfl rfl rfl Dr.c2 ?_)
      | (with_reducible refine load_k1 HK.out 0 ckI _ rfl rfl rfl rfl Dr.c3 ?_)
      | (with_reducible refine load_k1 HK.out 0 ckI _ rfl rfl rfl rfl Dr.c4 ?_)
      | (go_at_call 38; (with_reducible refine (hv _).mono ?_); rintro e u ⟨rfl, rfl⟩)
      | (go_at_call 38; (with_reducible refine (hl _).mono ?_); rintro e u ⟨rfl, rfl⟩)
      | (go_at_call 38; (with_reducible refine (hh _).mono ?_); rintro e u ⟨rfl, rfl⟩)
      | (go_at_call 38; (with_reducible refine (hf _).mono ?_); rintro e u ⟨rfl, rfl⟩))
    go_ret
    exact ⟨by rw [HT.out]; rfl, HK.out.mf.bel⟩
  | true =>
    rw [h1] at hv
    cases h2 : isB d.lo with
    | false =>
      rw [h2] at hl
      have HT := Lib.hid (show greatB d = true by simp [greatB, h2])
      go_enter Tryz.func87, Tryz.ntmps87
      go_wp2_with (first
        | ((with_reducible refine box_k (cs := d.cells) HK.out rfl _ rfl rfl ?_); intro b1 u hk; clear HK; have HK := Lib.hid hk; clear hk)
        | (with_reducible refine load_k1 HK.out 0 ckI _ rfl rfl rfl rfl Dr.c2 ?_)
        | (with_reducible refine load_k1 HK.out 0 ckI _ rfl rfl rfl rfl Dr.c3 ?_)
        | (with_reducible refine load_k1 HK.out 0 ckI _ rfl rfl rfl rfl Dr.c4 ?_)
        | (go_at_call 38; (with_reducible refine (hv _).mono ?_); rintro e u ⟨rfl, rfl⟩)
        | (go_at_call 38; (with_reducible refine (hl _).mono ?_); rintro e u ⟨rfl, rfl⟩)
        | (go_at_call 38; (with_reducible refine (hh _).mono ?_); rintro e u ⟨rfl, rfl⟩)
        | (go_at_call 38; (with_reducible refine (hf _).mono ?_); rintro e u ⟨rfl, rfl⟩))
      go_ret
      exact ⟨by rw [HT.out]; rfl, HK.out.mf.bel⟩
    | true =>
      rw [h2] at hl
      cases h3 : isB d.hi with
      | false =>
        rw [h3] at hh
        have HT := Lib.hid (show greatB d = true by simp [greatB, h3])
        go_enter Tryz.func87, Tryz.ntmps87
        go_wp2_with (first
          | ((with_reducible refine box_k (cs := d.cells) HK.out rfl _ rfl rfl ?_); intro b1 u hk; clear HK; have HK := Lib.hid hk; clear hk)
          | (with_reducible refine load_k1 HK.out 0 ckI _ rfl rfl rfl rfl Dr.c2 ?_)
          | (with_reducible refine load_k1 HK.out 0 ckI _ rfl rfl rfl rfl Dr.c3 ?_)
          | (with_reducible refine load_k1 HK.out 0 ckI _ rfl rfl rfl rfl Dr.c4 ?_)
          | (go_at_call 38; (with_reducible refine (hv _).mono ?_); rintro e u ⟨rfl, rfl⟩)
          | (go_at_call 38; (with_reducible refine (hl _).mono ?_); rintro e u ⟨rfl, rfl⟩)
          | (go_at_call 38; (with_reducible refine (hh _).mono ?_); rintro e u ⟨rfl, rfl⟩)
          | (go_at_call 38; (with_reducible refine (hf _).mono ?_); rintro e u ⟨rfl, rfl⟩))
        go_ret
        exact ⟨by rw [HT.out]; rfl, HK.out.mf.bel⟩
      | true =>
        rw [h3] at hh
        have w0 : IntKind.i64.wrap (d.hi - d.lo) = d.hi - d.lo := wrap_bd (by have := isB_iff.1 h2; have := isB_iff.1 h3; omega)
        cases h4 : isB (d.hi - d.lo) with
        | false =>
          rw [h4] at hf
          have HT := Lib.hid (show greatB d = true by simp [greatB, h4])
          go_enter Tryz.func87, Tryz.ntmps87
          go_wp2_with (first
            | ((with_reducible refine box_k (cs := d.cells) HK.out rfl _ rfl rfl ?_); intro b1 u hk; clear HK; have HK := Lib.hid hk; clear hk)
            | (with_reducible refine load_k1 HK.out 0 ckI _ rfl rfl rfl rfl Dr.c2 ?_)
            | (with_reducible refine load_k1 HK.out 0 ckI _ rfl rfl rfl rfl Dr.c3 ?_)
            | (with_reducible refine load_k1 HK.out 0 ckI _ rfl rfl rfl rfl Dr.c4 ?_)
            | (go_at_call 38; (with_reducible refine (hv _).mono ?_); rintro e u ⟨rfl, rfl⟩)
            | (go_at_call 38; (with_reducible refine (hl _).mono ?_); rintro e u ⟨rfl, rfl⟩)
            | (go_at_call 38; (with_reducible refine (hh _).mono ?_); rintro e u ⟨rfl, rfl⟩)
            | (go_at_call 38; (with_reducible refine (hf _).mono ?_); rintro e u ⟨rfl, rfl⟩))
          go_ret
          exact ⟨by rw [HT.out]; rfl, HK.out.mf.bel⟩
        | true =>
          rw [h4] at hf
          have HT := Lib.hid (show greatB d = false by simp [greatB, h1, h2, h3, h4])
          go_enter Tryz.func87, Tryz.ntmps87
          go_wp2_with (first
            | ((with_reducible refine box_k (cs := d.cells) HK.out rfl _ rfl rfl ?_); intro b1 u hk; clear HK; have HK := Lib.hid hk; clear hk)
            | (with_reducible refine load_k1 HK.out 0 ckI _ rfl rfl rfl rfl Dr.c2 ?_)
            | (with_reducible refine load_k1 HK.out 0 ckI _ rfl rfl rfl rfl Dr.c3 ?_)
            | (with_reducible refine load_k1 HK.out 0 ckI _ rfl rfl rfl rfl Dr.c4 ?_)
            | (go_at_call 38; (with_reducible refine (hv _).mono ?_); rintro e u ⟨rfl, rfl⟩)
            | (go_at_call 38; (with_reducible refine (hl _).mono ?_); rintro e u ⟨rfl, rfl⟩)
            | (go_at_call 38; (with_reducible refine (hh _).mono ?_); rintro e u ⟨rfl, rfl⟩)
            | (go_at_call 38; (with_reducible refine (hf _).mono ?_); rintro e u ⟨rfl, rfl⟩))
          go_ret
          exact ⟨by rw [HT.out]; rfl, HK.out.mf.bel⟩
theorem beyond_any (d : Dr) (w : World) : Calls Tryz.prog 88 #[.agg d.cells.toArray] w fun e w' => e = .returned (.bool (beyondB d)) ∧ Below w.heap.size w w' := by
  have HK := Lib.hid (Kg.start w)
  cases h1 : (d.k == 1) with
  | false =>
    have HT := Lib.hid (show beyondB d = (false) by simp [beyondB, h1])
    go_enter Tryz.func88, Tryz.ntmps88
    go_wp2_with (first
      | ((with_reducible refine box_k (cs := d.cells) HK.out rfl _ rfl rfl ?_); intro b1 u hk; clear HK; have HK := Lib.hid hk; clear hk)
      | (with_reducible refine load_k1 HK.out 0 ckI _ rfl rfl rfl rfl Dr.c1 ?_)
      | (with_reducible refine load_k1 HK.out 0 ckI _ rfl rfl rfl rfl Dr.c2 ?_)
      | (with_reducible refine load_k1 HK.out 0 ckI _ rfl rfl rfl rfl Dr.c3 ?_)
      | (with_reducible refine load_k1 HK.out 0 ckI _ rfl rfl rfl rfl Dr.c4 ?_))
    go_ret
    exact ⟨by rw [HT.out]; rfl, HK.out.mf.bel⟩
  | true =>
    cases h2 : decide (d.v < d.lo) with
    | true =>
      have HT := Lib.hid (show beyondB d = (true) by simp [beyondB, h1, h2])
      go_enter Tryz.func88, Tryz.ntmps88
      go_wp2_with (first
        | ((with_reducible refine box_k (cs := d.cells) HK.out rfl _ rfl rfl ?_); intro b1 u hk; clear HK; have HK := Lib.hid hk; clear hk)
        | (with_reducible refine load_k1 HK.out 0 ckI _ rfl rfl rfl rfl Dr.c1 ?_)
        | (with_reducible refine load_k1 HK.out 0 ckI _ rfl rfl rfl rfl Dr.c2 ?_)
        | (with_reducible refine load_k1 HK.out 0 ckI _ rfl rfl rfl rfl Dr.c3 ?_)
        | (with_reducible refine load_k1 HK.out 0 ckI _ rfl rfl rfl rfl Dr.c4 ?_))
      go_ret
      exact ⟨by rw [HT.out]; rfl, HK.out.mf.bel⟩
    | false =>
      have HT := Lib.hid (show beyondB d = (decide (d.hi < d.v)) by simp [beyondB, h1, h2])
      go_enter Tryz.func88, Tryz.ntmps88
      go_wp2_with (first
        | ((with_reducible refine box_k (cs := d.cells) HK.out rfl _ rfl rfl ?_); intro b1 u hk; clear HK; have HK := Lib.hid hk; clear hk)
        | (with_reducible refine load_k1 HK.out 0 ckI _ rfl rfl rfl rfl Dr.c1 ?_)
        | (with_reducible refine load_k1 HK.out 0 ckI _ rfl rfl rfl rfl Dr.c2 ?_)
        | (with_reducible refine load_k1 HK.out 0 ckI _ rfl rfl rfl rfl Dr.c3 ?_)
        | (with_reducible refine load_k1 HK.out 0 ckI _ rfl rfl rfl rfl Dr.c4 ?_))
      go_ret
      exact ⟨by rw [HT.out]; rfl, HK.out.mf.bel⟩
set_option maxHeartbeats 1000000 in
theorem idx_great (A : Option Addr) (n c : Nat) (l : List Dr) (hn : n ≤ 1000) (w : World) (hd : DS w A n l) :
    Calls Tryz.prog 120 #[.slice A n c, .func (.func 87) #[] #[]] w fun e w' => ∃ r : Int, e = .returned (.int .i64 r) ∧ decide (0 ≤ r) = l.any (greatB) ∧ Below w.heap.size w w' := by
  have HD := Lib.hid hd
  have HPL := Lib.hid (show l.length = n from hd.1)
  clear hd
  have HK := Lib.hid (Kg.start w)
  obtain ⟨R, hR⟩ : ∃ R, l.any (greatB) = R := ⟨_, rfl⟩
  rw [hR]
  have HRR := Lib.hid hR; clear hR
  go_enter Tryz.func120, Tryz.ntmps120
  go_wp2
  go_loopw [8] (fun i wr => ∃ m : Nat, m ≤ n ∧ i = .int .i64 m ∧ (∀ j x, j < m → l[j]? = some x → (greatB) x = false) ∧ Kg w (fun _ => False) [] [] wr) (fun i _ => n - (intOf i).toNat)
  case atStart => exact ⟨0, by omega, rfl, fun j x hj => by omega, HK.out⟩
  case round =>
    obtain ⟨m, hm, rfl, hq, hk⟩ := hrel
    have HQ := Lib.hid hq; clear hq
    clear HK; have HK := Lib.hid hk; clear hk
    by_cases hlt : m < n
    · obtain ⟨x, hx⟩ := HD.out.get hlt
      obtain ⟨b, off, rfl, hr⟩ := HD.out.base (by omega)
      have HX := Lib.hid hx
      have HR := Lib.hid (hr m x hx)
      have hcl := fun w => great_any x w
      clear hr hx
      have HM := Lib.hid hlt
      have i1 : (0 : Int) ≤ (m : Int) := by omega
      have i2 : (m : Int) < (n : Int) := by omega
      cases ht : (greatB x) with
      | true =>
        rw [ht] at hcl
        have HT := Lib.hid (show R = true by rw [← HRR.out]; exact any_hit (P := greatB) HX.out ht); clear ht
        go_wp2_with (first
          | (with_reducible refine load_kg Tryz.underlying114 rfl dr_info _ rfl (rng_below HR.out HK.out.mf.bel) rfl rfl ?_)
          | (go_at_call 87; (with_reducible refine (hcl _).mono ?_); rintro e u ⟨rfl, hb⟩; have hk := HK.out.call hb; clear hb; clear HK; have HK := Lib.hid hk; clear hk))
        go_ret
        exact ⟨_, rfl, by rw [HT.out]; exact decide_eq_true (by omega), HK.out.mf.bel⟩
      | false =>
        rw [ht] at hcl
        have HT := Lib.hid ht; clear ht
        go_wp2_with (first
          | (with_reducible refine load_kg Tryz.underlying114 rfl dr_info _ rfl (rng_below HR.out HK.out.mf.bel) rfl rfl ?_)
          | (go_at_call 87; (with_reducible refine (hcl _).mono ?_); rintro e u ⟨rfl, hb⟩; have hk := HK.out.call hb; clear hb; clear HK; have HK := Lib.hid hk; clear hk))
        go_roundw
        case rel => exact ⟨m + 1, by have := HM.out; omega, by go_num, fun j y hj hy => by
          rcases Nat.lt_or_ge j m with h3 | h3
          · exact HQ.out j y h3 hy
          · obtain rfl : m = j := by omega
            rw [HX.out] at hy
            injection hy with hy
            rw [← hy]; exact HT.out, HK.out⟩
        case measure => have := HM.out; simp [intOf]; omega
    · obtain rfl : m = n := by omega
      have HT := Lib.hid (show R = false by rw [← HRR.out]; exact any_noneQ (l := l) (P := greatB) fun j x hj => HQ.out j x (by rw [HPL.out] at hj; exact hj))
      go_wp2
      go_ret
      exact ⟨_, rfl, by rw [HT.out]; rfl, HK.out.mf.bel⟩
theorem con_great (A : Option Addr) (n c : Nat) (l : List Dr) (hn : n ≤ 1000) (w : World) (hd : DS w A n l) :
    Calls Tryz.prog 86 #[.slice A n c, .func (.func 87) #[] #[]] w fun e w' => e = .returned (.bool (l.any (greatB))) ∧ Below w.heap.size w w' := by
  have hix := idx_great A n c l hn w hd
  go_enter Tryz.func86, Tryz.ntmps86
  go_wp2_with (first
    | (go_at_call 120; (with_reducible refine hix.mono ?_); rintro e u ⟨r, rfl, hr, hb⟩; have HR := Lib.hid hr; have HB := Lib.hid hb; clear hr hb))
  go_ret
  exact ⟨by rw [← HR.out]; rfl, HB.out⟩
set_option maxHeartbeats 1000000 in
theorem idx_beyond (A : Option Addr) (n c : Nat) (l : List Dr) (hn : n ≤ 1000) (w : World) (hd : DS w A n l) :
    Calls Tryz.prog 120 #[.slice A n c, .func (.func 88) #[] #[]] w fun e w' => ∃ r : Int, e = .returned (.int .i64 r) ∧ decide (0 ≤ r) = l.any (beyondB) ∧ Below w.heap.size w w' := by
  have HD := Lib.hid hd
  have HPL := Lib.hid (show l.length = n from hd.1)
  clear hd
  have HK := Lib.hid (Kg.start w)
  obtain ⟨R, hR⟩ : ∃ R, l.any (beyondB) = R := ⟨_, rfl⟩
  rw [hR]
  have HRR := Lib.hid hR; clear hR
  go_enter Tryz.func120, Tryz.ntmps120
  go_wp2
  go_loopw [8] (fun i wr => ∃ m : Nat, m ≤ n ∧ i = .int .i64 m ∧ (∀ j x, j < m → l[j]? = some x → (beyondB) x = false) ∧ Kg w (fun _ => False) [] [] wr) (fun i _ => n - (intOf i).toNat)
  case atStart => exact ⟨0, by omega, rfl, fun j x hj => by omega, HK.out⟩
  case round =>
    obtain ⟨m, hm, rfl, hq, hk⟩ := hrel
    have HQ := Lib.hid hq; clear hq
    clear HK; have HK := Lib.hid hk; clear hk
    by_cases hlt : m < n
    · obtain ⟨x, hx⟩ := HD.out.get hlt
      obtain ⟨b, off, rfl, hr⟩ := HD.out.base (by omega)
      have HX := Lib.hid hx
      have HR := Lib.hid (hr m x hx)
      have hcl := fun w => beyond_any x w
      clear hr hx
      have HM := Lib.hid hlt
      have i1 : (0 : Int) ≤ (m : Int) := by omega
      have i2 : (m : Int) < (n : Int) := by omega
      cases ht : (beyondB x) with
      | true =>
        rw [ht] at hcl
        have HT := Lib.hid (show R = true by rw [← HRR.out]; exact any_hit (P := beyondB) HX.out ht); clear ht
        go_wp2_with (first
          | (with_reducible refine load_kg Tryz.underlying114 rfl dr_info _ rfl (rng_below HR.out HK.out.mf.bel) rfl rfl ?_)
          | (go_at_call 88; (with_reducible refine (hcl _).mono ?_); rintro e u ⟨rfl, hb⟩; have hk := HK.out.call hb; clear hb; clear HK; have HK := Lib.hid hk; clear hk))
        go_ret
        exact ⟨_, rfl, by rw [HT.out]; exact decide_eq_true (by omega), HK.out.mf.bel⟩
      | false =>
        rw [ht] at hcl
        have HT := Lib.hid ht; clear ht
        go_wp2_with (first
          | (with_reducible refine load_kg Tryz.underlying114 rfl dr_info _ rfl (rng_below HR.out HK.out.mf.bel) rfl rfl ?_)
          | (go_at_call 88; (with_reducible refine (hcl _).mono ?_); rintro e u ⟨rfl, hb⟩; have hk := HK.out.call hb; clear hb; clear HK; have HK := Lib.hid hk; clear hk))
        go_roundw
        case rel => exact ⟨m + 1, by have := HM.out; omega, by go_num, fun j y hj hy => by
          rcases Nat.lt_or_ge j m with h3 | h3
          · exact HQ.out j y h3 hy
          · obtain rfl : m = j := by omega
            rw [HX.out] at hy
            injection hy with hy
            rw [← hy]; exact HT.out, HK.out⟩
        case measure => have := HM.out; simp [intOf]; omega
    · obtain rfl : m = n := by omega
      have HT := Lib.hid (show R = false by rw [← HRR.out]; exact any_noneQ (l := l) (P := beyondB) fun j x hj => HQ.out j x (by rw [HPL.out] at hj; exact hj))
      go_wp2
      go_ret
      exact ⟨_, rfl, by rw [HT.out]; rfl, HK.out.mf.bel⟩
theorem con_beyond (A : Option Addr) (n c : Nat) (l : List Dr) (hn : n ≤ 1000) (w : World) (hd : DS w A n l) :
    Calls Tryz.prog 86 #[.slice A n c, .func (.func 88) #[] #[]] w fun e w' => e = .returned (.bool (l.any (beyondB))) ∧ Below w.heap.size w w' := by
  have hix := idx_beyond A n c l hn w hd
  go_enter Tryz.func86, Tryz.ntmps86
  go_wp2_with (first
    | (go_at_call 120; (with_reducible refine hix.mono ?_); rintro e u ⟨r, rfl, hr, hb⟩; have HR := Lib.hid hr; have HB := Lib.hid hb; clear hr hb))
  go_ret
  exact ⟨by rw [← HR.out]; rfl, HB.out⟩

end Go.Proofs.YtgblnlpfgdbnnaaGreat

namespace Go.Proofs
open Go.Shelf Go.RowKit Go.Lib Go.Sort

/-- Which function, and which type, of this program each of the library's is. -/
def YtgblnlpfgdbnnaaGreat.sortRenF : Ren where
  f := fun x => match x with
    | 6 => 53
    | 14 => 90
    | 15 => 91
    | 20 => 122
    | 21 => 123
    | 22 => 124
    | 23 => 125
    | 24 => 126
    | 25 => 127
    | 26 => 128
    | 27 => 129
    | 28 => 130
    | 29 => 131
    | 46 => 146
    | 47 => 147
    | 48 => 148
    | 49 => 149
    | 50 => 150
    | 57 => 168
    | n => n
  t := fun x => match x with
    | 0 => 0
    | 3 => 3
    | 4 => 4
    | 5 => 5
    | 9 => 9
    | 22 => 22
    | 24 => 43
    | 25 => 67
    | 39 => 119
    | 45 => 140
    | 46 => 141
    | 50 => 30
    | 53 => 147
    | 55 => 149
    | 66 => 164
    | 70 => 168
    | 76 => 177
    | 77 => 178
    | n => n
  g := fun x => x
theorem YtgblnlpfgdbnnaaGreat.sortFd : SlLaysF0.n6 Tryz.prog YtgblnlpfgdbnnaaGreat.sortRenF where
  mixed := by kernel_rfl
  f6 := YtgblnlpfgdbnnaaGreat.bears Tryz.func53 (by kernel_rfl) (by kernel_rfl)
  f14 := YtgblnlpfgdbnnaaGreat.bears Tryz.func90 (by kernel_rfl) (by kernel_rfl)
  f15 := by kernel_rfl
  f20 := YtgblnlpfgdbnnaaGreat.bears Tryz.func122 (by kernel_rfl) (by kernel_rfl)
  f21 := YtgblnlpfgdbnnaaGreat.bears Tryz.func123 (by kernel_rfl) (by kernel_rfl)
  f22 := YtgblnlpfgdbnnaaGreat.bears Tryz.func124 (by kernel_rfl) (by kernel_rfl)
  f23 := YtgblnlpfgdbnnaaGreat.bears Tryz.func125 (by kernel_rfl) (by kernel_rfl)
  f24 := YtgblnlpfgdbnnaaGreat.bears Tryz.func126 (by kernel_rfl) (by kernel_rfl)
  f25 := YtgblnlpfgdbnnaaGreat.bears Tryz.func127 (by kernel_rfl) (by kernel_rfl)
  f26 := YtgblnlpfgdbnnaaGreat.bears Tryz.func128 (by kernel_rfl) (by kernel_rfl)
  f27 := YtgblnlpfgdbnnaaGreat.bears Tryz.func129 (by kernel_rfl) (by kernel_rfl)
  f28 := by kernel_rfl
  f29 := by kernel_rfl
  f46 := YtgblnlpfgdbnnaaGreat.bears Tryz.func146 (by kernel_rfl) (by kernel_rfl)
  f47 := by kernel_rfl
  f48 := by kernel_rfl
  f49 := YtgblnlpfgdbnnaaGreat.bears Tryz.func149 (by kernel_rfl) (by kernel_rfl)
  f50 := YtgblnlpfgdbnnaaGreat.bears Tryz.func150 (by kernel_rfl) (by kernel_rfl)
  f57 := YtgblnlpfgdbnnaaGreat.bears Tryz.func168 (by kernel_rfl) (by kernel_rfl)
  t0 := by kernel_rfl
  a0 := fun _ => by kernel_rfl
  z0 := fun _ => by kernel_rfl
  v0 := fun _ => by kernel_rfl
  t3 := by kernel_rfl
  a3 := fun _ => by kernel_rfl
  z3 := fun _ => by kernel_rfl
  v3 := fun _ => by kernel_rfl
  t4 := by kernel_rfl
  a4 := fun _ => by kernel_rfl
  z4 := fun _ => by kernel_rfl
  v4 := fun _ => by kernel_rfl
  t5 := by kernel_rfl
  a5 := fun _ => by kernel_rfl
  z5 := fun _ => by kernel_rfl
  v5 := fun _ => by kernel_rfl
  t9 := by kernel_rfl
  a9 := fun _ => by kernel_rfl
  z9 := fun _ => by kernel_rfl
  v9 := fun _ => by kernel_rfl
  t22 := by kernel_rfl
  a22 := fun _ => by kernel_rfl
  z22 := fun _ => by kernel_rfl
  v22 := fun _ => by kernel_rfl
  t25 := by kernel_rfl
  a25 := fun _ => by kernel_rfl
  z25 := fun _ => by kernel_rfl
  v25 := fun _ => by kernel_rfl
  t39 := by kernel_rfl
  a39 := fun _ => by kernel_rfl
  z39 := fun _ => by kernel_rfl
  v39 := fun _ => by kernel_rfl
  t45 := by kernel_rfl
  a45 := fun _ => by kernel_rfl
  z45 := fun _ => by kernel_rfl
  v45 := fun _ => by kernel_rfl
  t46 := by kernel_rfl
  a46 := fun _ => by kernel_rfl
  z46 := fun _ => by kernel_rfl
  v46 := fun _ => by kernel_rfl
  t50 := by kernel_rfl
  a50 := fun _ => by kernel_rfl
  z50 := fun _ => by kernel_rfl
  v50 := fun _ => by kernel_rfl
  t53 := by kernel_rfl
  a53 := fun _ => by kernel_rfl
  z53 := fun _ => by kernel_rfl
  v53 := fun _ => by kernel_rfl
  t55 := by kernel_rfl
  a55 := fun _ => by kernel_rfl
  z55 := fun _ => by kernel_rfl
  v55 := fun _ => by kernel_rfl
  t66 := by kernel_rfl
  a66 := fun _ => by kernel_rfl
  z66 := fun _ => by kernel_rfl
  v66 := fun _ => by kernel_rfl
  t70 := by kernel_rfl
  a70 := fun _ => by kernel_rfl
  z70 := fun _ => by kernel_rfl
  v70 := fun _ => by kernel_rfl
  t76 := by kernel_rfl
  a76 := fun _ => by kernel_rfl
  z76 := fun _ => by kernel_rfl
  v76 := fun _ => by kernel_rfl
  t77 := by kernel_rfl
  a77 := fun _ => by kernel_rfl
  z77 := fun _ => by kernel_rfl
  v77 := fun _ => by kernel_rfl

/-- A field of 587 cells. -/
abbrev YtgblnlpfgdbnnaaGreat.FQ := { x : YtgblnlpfgdbnnaaGreat.Q // x.1.full }
instance : Inhabited YtgblnlpfgdbnnaaGreat.FQ := ⟨⟨(YtgblnlpfgdbnnaaGreat.zP, none, 0), YtgblnlpfgdbnnaaGreat.zP_full⟩⟩
def YtgblnlpfgdbnnaaGreat.encF (x : YtgblnlpfgdbnnaaGreat.FQ) : List Value := (x.1.1.fd x.1.2.1 x.1.2.2).cells
def YtgblnlpfgdbnnaaGreat.nameF (x y : YtgblnlpfgdbnnaaGreat.FQ) : Int := YtgblnlpfgdbnnaaGreat.cmpS x.1.1.nm y.1.1.nm
theorem YtgblnlpfgdbnnaaGreat.cmpLaysF (blk off size : Nat) (w : World) : CmpLays Tryz.prog 33 #[] YtgblnlpfgdbnnaaGreat.encF 587 YtgblnlpfgdbnnaaGreat.nameF blk off size w :=
  fun _ _ _ _ x y => (YtgblnlpfgdbnnaaGreat.byname_any x.1.1 y.1.1 _ _ _ _ _).mono fun _ _ ⟨he, hb, hd⟩ => ⟨he, YtgblnlpfgdbnnaaGreat.grow_of_below hb hd⟩
theorem YtgblnlpfgdbnnaaGreat.ltF (x y : YtgblnlpfgdbnnaaGreat.FQ) : ltOf YtgblnlpfgdbnnaaGreat.nameF x y = YtgblnlpfgdbnnaaGreat.ltS x.1.1.nm y.1.1.nm := YtgblnlpfgdbnnaaGreat.cmpS_neg
theorem YtgblnlpfgdbnnaaGreat.swoF : SWO (ltOf YtgblnlpfgdbnnaaGreat.nameF) where
  irrefl x := by rw [YtgblnlpfgdbnnaaGreat.ltF]; exact YtgblnlpfgdbnnaaGreat.ltS_irrefl _
  trans x y z h1 h2 := by rw [YtgblnlpfgdbnnaaGreat.ltF] at *; exact YtgblnlpfgdbnnaaGreat.ltS_trans h1 h2
  ntrans x y z h1 h2 := by
    rw [YtgblnlpfgdbnnaaGreat.ltF] at *
    cases h : YtgblnlpfgdbnnaaGreat.ltS x.1.1.nm z.1.1.nm with
    | false => rfl
    | true =>
      cases h3 : YtgblnlpfgdbnnaaGreat.ltS z.1.1.nm y.1.1.nm with
      | true =>
        have := YtgblnlpfgdbnnaaGreat.ltS_trans h h3
        rw [h1] at this; cases this
      | false =>
        have e := YtgblnlpfgdbnnaaGreat.ltS_tri h2 h3
        rw [e, h] at h1; cases h1
end Go.Proofs

namespace Go.Proofs.YtgblnlpfgdbnnaaGreat
set_option maxRecDepth 100000

open Go.ChangeShapes Go.WideShapes Go.ChangeAt Go.RowKit Go.Shelf Go.Lib Go.Sort

def unF (l : List FQ) : List Q := l.map (·.1)
theorem unF_full (l : List FQ) : ∀ x ∈ unF l, x.1.full := fun x hx => by
  obtain ⟨y, _, rfl⟩ := List.mem_map.1 hx; exact y.2
theorem flatF {ys : List FQ} {j : Nat} (hj : j < ys.length * 587) : (fcs (unF ys))[j]? = some ((flatK encF 587 ys.toArray)[j]!) := by
  have hk : j / 587 < ys.length := by omega
  have hl : (encF ys[j / 587]).length = 587 := Pf.len ys[j / 587].2
  rw [get_flatK _ _ _ _ (by simpa using hj)]
  have e : ys.toArray[j / 587]! = ys[j / 587] := by
    rw [getElem!_pos ys.toArray (j / 587) (by simpa using hk)]; simp
  have hx : (unF ys)[j / 587]? = some ys[j / 587].1 := by
    rw [unF, List.getElem?_map, List.getElem?_eq_getElem hk]; rfl
  have h3 : (fcs (unF ys))[j / 587 * 587 + j % 587]? = some ((encF ys[j / 587])[j % 587]'(by rw [hl]; omega)) := fcs_get (unF_full ys) hx (j % 587) _ (List.getElem?_eq_getElem (by rw [show (ys[j / 587].1.1.fd ys[j / 587].1.2.1 ys[j / 587].1.2.2).cells.length = 587 from hl]; omega))
  rw [show j / 587 * 587 + j % 587 = j by omega] at h3
  rw [h3, e, getElem!_pos _ _ (by rw [hl]; omega)]
theorem og_holdsF {w : World} {base g cap n : Nat} {ys : List FQ} (h : w.ownsRow base 43 587 (.slice (some ⟨g, 0, none⟩) n cap) ys.length (fcs (unF ys))) : HoldsK encF 587 w g 0 ys.toArray := by
  intro j hj
  have hj' : j < ys.length * 587 := by simpa using hj
  have h1 := flatF hj'
  obtain ⟨g', e, hc, _⟩ := og_cell h h1
  have e2 : g = g' := congrArg (fun a : Option Addr => a.elim 0 Addr.block) e
  refine ⟨by rw [Nat.zero_add, e2]; exact hc, ?_⟩
  rcases h.2 with ⟨e0, _⟩ | ⟨g2, cap2, cur, e0, _, hg, _⟩
  · cases e0
  · injection e0 with e1 _ _
    injection e1 with e1
    injection e1 with e1
    subst e1
    exact frozen_of_row w g (0 + j) _ 43 hg
theorem og_sortedF {w : World} {base g cap n q : Nat} {hs ys : List FQ} {os : Array Obj} (h : w.ownsRow base 43 587 (.slice (some ⟨g, 0, none⟩) n cap) hs.length (fcs (unF hs))) (hy : ys.length = hs.length) :
    (sortWorldK encF 587 w g 0 q ys.toArray os).ownsRow base 43 587 (.slice (some ⟨g, 0, none⟩) n cap) ys.length (fcs (unF ys)) ∧ Mf (fun k => k = g) w (sortWorldK encF 587 w g 0 q ys.toArray os) := by
  have hlen : (fcs (unF ys)).length = ys.length * 587 := by rw [fcs_len (unF_full ys), unF, List.length_map]
  rcases h.2 with ⟨e0, _⟩ | ⟨g', cap', cur, e0, hbg, hg, hn, hm, hs', ht⟩
  · cases e0
  · injection e0 with e1 e2 e3
    injection e1 with e1
    injection e1 with e1
    subst e1; subst e2; subst e3
    have hgl : g < w.heap.size := (Array.getElem?_eq_some_iff.1 hg).1
    have hgl' : g < (putRowK encF 587 (Sort.ahead w q) g 0 ys.toArray).heap.size := by simpa [putRowK, putRow, mapBlock, Sort.ahead] using hgl
    refine ⟨⟨hlen, .inr ⟨g, cap, putCells id 0 (flatK encF 587 ys.toArray) cur, by rw [hy], hbg, ?_, by omega, hm, by simpa [putCells] using hs', ?_⟩⟩, ?_⟩
    · unfold sortWorldK
      rw [heap_grow_old _ _ hgl']
      simp [putRowK, putRow, mapBlock, Sort.ahead, Array.getElem?_modify, hg, onCells]
    · apply List.ext_getElem?
      intro j
      rw [List.getElem?_take, Array.getElem?_toList]
      by_cases hj : j < ys.length * 587
      · have hcap : hs.length * 587 ≤ cap * 587 := Nat.mul_le_mul_right 587 hn
        have hjc : j < cur.size := by omega
        rw [flatF hj]
        simp only [if_pos hj, putCells, Array.getElem?_mapIdx, Array.getElem?_eq_getElem hjc, Option.map_some]
        rw [if_pos (by simp; omega), Nat.sub_zero]
        rfl
      · rw [if_neg hj, List.getElem?_eq_none (by rw [hlen]; omega)]
    · refine ⟨rfl, rfl, rfl, by simp [sortWorldK, putRowK, putRow, mapBlock, Sort.ahead], fun k hk hne => ?_⟩
      unfold sortWorldK
      rw [heap_grow_old _ _ (by simp [putRowK, putRow, mapBlock, Sort.ahead]; omega)]
      simp [putRowK, putRow, mapBlock, Sort.ahead, Array.getElem?_modify, show g ≠ k from fun e => hne e.symm]
theorem to_FQ : ∀ {qs : List Q}, (∀ x ∈ qs, x.1.full) → ∃ hs : List FQ, unF hs = qs
  | [], _ => ⟨[], rfl⟩
  | x :: qs, h => by
    obtain ⟨hs, e⟩ := to_FQ (qs := qs) fun y hy => h y (List.mem_cons_of_mem _ hy)
    exact ⟨⟨x, h x List.mem_cons_self⟩ :: hs, by show x :: unF hs = x :: qs; rw [e]⟩
/-- In order of names. -/
def upS (qs : List Q) : Prop := qs.Pairwise fun x y => ltS y.1.nm x.1.nm = false
theorem fsort_any (w : World) (base : Nat) (v : Value) (qs : List Q) (hf : ∀ x ∈ qs, x.1.full) (ho : w.ownsRow base 43 587 v qs.length (fcs qs)) (hn : qs.length ≤ 2000) :
    Calls Tryz.prog 53 #[v, .func (.func 33) #[] #[]] w fun e w' => e = .returned (.tuple #[]) ∧ ∃ rs : List Q, w'.ownsRow base 43 587 v rs.length (fcs rs) ∧ rs.Perm qs ∧ upS rs ∧ Mf (fun k => v.ownBlock = some k) w w' := by
  obtain ⟨hs, rfl⟩ := to_FQ hf
  have hul : (unF hs).length = hs.length := by simp [unF]
  rcases Nat.eq_zero_or_pos hs.length with h0 | h0
  · have hnil : hs = [] := List.eq_nil_of_length_eq_zero h0
    subst hnil
    obtain ⟨A, c, rfl⟩ := og_len ho
    have hcon := AnyF.slices_SortFunc_none sortFd A c (.func (.func 33) #[] #[]) w
    change Calls Tryz.prog 53 _ _ _ at hcon
    exact hcon.mono fun e w' ⟨he, hw⟩ => ⟨he, [], by rw [hw]; exact ho, List.Perm.refl _, List.Pairwise.nil, by rw [hw]; exact Mf.refl _ _⟩
  · rw [hul] at ho hn
    obtain ⟨g, cap, rfl, hg2⟩ : ∃ g cap, v = .slice (some ⟨g, 0, none⟩) hs.length cap ∧ g < w.heap.size := by
      rcases ho.2 with ⟨_, h1⟩ | ⟨g, cap, cur, h1, _, h2, _⟩
      · omega
      · exact ⟨g, cap, h1, (Array.getElem?_eq_some_iff.1 h2).1⟩
    have eg : ∀ args w, (callFunc 33 args).run Tryz.prog w = .ok (.enter 33 args) w := enters_of Tryz.func33 (by kernel_rfl) rfl
    have hcon := AnyQ.slices_SortFunc sortFd 587 Tryz.isAgg43 Tryz.sizeOf43 encF (fun x => Pf.len x.2) (fun x => fd_ones) nameF swoF 33 #[] g 0 cap hs.toArray w eg (cmpLaysF g 0 hs.toArray.size w) (og_holdsF ho) hg2 (by simp; omega)
    change Calls Tryz.prog 53 _ _ _ at hcon
    rw [show hs.toArray.size = hs.length by simp] at hcon
    refine hcon.mono fun e w' ⟨he, d', n, os, hp, hs', hw⟩ => ⟨he, ?_⟩
    obtain ⟨ys, rfl⟩ : ∃ ys : List FQ, d' = ys.toArray := ⟨d'.toList, by simp⟩
    have hy : ys.length = hs.length := by simpa using hp.1
    have hperm : ys.Perm hs := by
      have := hp.2.2
      simpa [← hy, List.take_of_length_le] using this
    obtain ⟨h1, h2⟩ := og_sortedF (q := n) (os := os) ho hy
    refine ⟨unF ys, by rw [hw, show (unF ys).length = ys.length by simp [unF]]; exact h1, hperm.map _, ?_, ?_⟩
    · unfold upS unF
      rw [List.pairwise_map, List.pairwise_iff_getElem]
      intro i j hi hj hij
      have := hs' i j (Nat.zero_le _) hij (by omega)
      rw [getElem!_pos ys.toArray j (by simpa using hj), getElem!_pos ys.toArray i (by simpa using hi), ltF] at this
      simpa using this
    · rw [hw]
      exact ⟨h2.os, h2.tape, h2.output, h2.size, fun k hk hne => h2.block k hk fun e => hne (by rw [e]; rfl)⟩

end Go.Proofs.YtgblnlpfgdbnnaaGreat
