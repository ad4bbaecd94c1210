/- A step in both disks, verb by verb: what the methods tell in all cases; Sync, and what is no step. -/
import Derived.Test.YtglhjfcngpednaaDs
namespace Go.Proofs.Ytglhjfcngpednaa
open Go.ChangeShapes Go.WideShapes Go.ChangeAt Go.RowKit

/-! ### A step, as plain data. -/
def apD (z : Nat) (d m : List UInt8) : List UInt8 := if d.length + m.length ≤ z then d ++ m else d
def cuD (d : List UInt8) (n : Int) : List UInt8 := if 0 ≤ n ∧ n ≤ d.length then d.take n.toNat else d
def cuF (f : Nat) (d : List UInt8) (n : Int) : Nat := if 0 ≤ n ∧ n ≤ d.length then min f n.toNat else f
def swD (z : Nat) (d m : List UInt8) : List UInt8 := if m.length ≤ z then m else d
def swF (z f : Nat) (m : List UInt8) : Nat := if m.length ≤ z then m.length else f
/-! ### What the methods tell, in all cases. -/
theorem append_gen (r : Nat) (z : Nat) (f : Int) (v : Value) (d : List UInt8) (A : Option Addr) (k c : Nat) (m : List UInt8) (hm : m.length = k) (hz : d.length ≤ z) (hz2 : z ≤ 1048576) (w : World) (hA : Bys w A m) (h : Dk w r z v f d) :
    Calls Try.prog 17 #[.pointer (some ⟨r, 0, none⟩), .slice A k c] w fun e w' => ∃ (e0 : Int) (v' : Value), e = .returned (.int .i64 e0) ∧ (e0 = 0 ↔ d.length + k ≤ z) ∧ (e0 = 0 ∨ e0 = 7) ∧ Dk w' r z v' f (apD z d m) ∧ Mv w w' r v v' := by
  by_cases h0 : d.length + k ≤ z
  · refine (append_any r z f v d A k c m hm hz2 h0 w hA h).mono fun e w' ⟨he, v', hd, hv⟩ => ⟨0, v', he, by simp [h0], .inl rfl, ?_, hv⟩
    rw [apD, if_pos (by omega)]
    exact hd
  · refine (append_full r z f v d A k c hz hz2 (by omega) w h).mono fun e w' ⟨he, hb⟩ => ⟨7, v, he, by simp [h0], .inr rfl, ?_, Mv.below r v hb⟩
    rw [apD, if_neg (by omega)]
    exact h.below hb
theorem cut_gen (r : Nat) (z f : Nat) (v : Value) (d : List UInt8) (n : Int) (w : World) (h : Dk w r z v f d) :
    Calls Try.prog 20 #[.pointer (some ⟨r, 0, none⟩), .int .i64 n] w fun e w' => ∃ (e0 : Int) (v' : Value), e = .returned (.int .i64 e0) ∧ (e0 = 0 ↔ 0 ≤ n ∧ n ≤ d.length) ∧ (e0 = 0 ∨ e0 = 1) ∧ Dk w' r z v' (cuF f d n : Nat) (cuD d n) ∧ Mv w w' r v v' := by
  by_cases h0 : 0 ≤ n ∧ n ≤ (d.length : Int)
  · obtain ⟨q, rfl⟩ : ∃ q : Nat, n = (q : Int) := ⟨n.toNat, by omega⟩
    refine (cut_any r z f v d q (by omega) w h).mono fun e w' ⟨he, v', hd, hv⟩ => ⟨0, v', he, by simp [h0], .inl rfl, ?_, hv⟩
    rw [cuF, cuD, if_pos h0, if_pos h0]
    exact hd
  · refine (cut_bad r z f v d n (by omega) w h).mono fun e w' ⟨he, hb⟩ => ⟨1, v, he, by simp [h0], .inr rfl, ?_, hb ▸ Mv.refl w r v⟩
    rw [cuF, cuD, if_neg h0, if_neg h0, ← hb]
    exact h
theorem swap_gen (r : Nat) (z f : Nat) (v : Value) (d : List UInt8) (A : Option Addr) (k c : Nat) (m : List UInt8) (hm : m.length = k) (hz2 : z ≤ 1048576) (w : World) (hA : Bys w A m) (h : Dk w r z v f d) :
    Calls Try.prog 19 #[.pointer (some ⟨r, 0, none⟩), .slice A k c] w fun e w' => ∃ (e0 : Int) (v' : Value), e = .returned (.int .i64 e0) ∧ (e0 = 0 ↔ k ≤ z) ∧ (e0 = 0 ∨ e0 = 7) ∧ Dk w' r z v' (swF z f m : Nat) (swD z d m) ∧ Mv w w' r v v' := by
  by_cases h0 : k ≤ z
  · refine (swap_any r z f v d A k c m hm hz2 h0 w hA h).mono fun e w' ⟨he, v', hd, hv⟩ => ⟨0, v', he, by simp [h0], .inl rfl, ?_, hv⟩
    rw [swF, swD, hm, if_pos h0, if_pos h0]
    exact hd
  · refine (swap_full r z f v d A k c (by omega) w h).mono fun e w' ⟨he, hb⟩ => ⟨7, v, he, by simp [h0], .inr rfl, ?_, hb ▸ Mv.refl w r v⟩
    rw [swF, swD, hm, if_neg h0, if_neg h0, ← hb]
    exact h
/-- Bytes that lie where the others lay, or are new. -/
structure Adds (w w' : World) (B : Option Addr) (x : List UInt8) (B' : Option Addr) (y : List UInt8) : Prop where
  bel : Below w.heap.size w w'
  bys : Bys w' B' y
  new : (B' = B ∧ y = x) ∨ ∀ a, B' = some a → w.heap.size ≤ a.block
theorem KO.adds {w w' : World} {B B' : Option Addr} {x y : List UInt8} {n c : Nat} (h : KO w (.slice B' n c) y w') : Adds w w' B x B' y := ⟨h.bel, h.own.bys, .inr fun a ha => h.own.base _ (by subst ha; rfl)⟩
theorem Kf.adds {w u u' : World} {F : Nat → Prop} {l : List (Nat × TypeId × List Value)} {ds : List Ent} {rows : List (Option Addr × List UInt8)} (h : Kf w F l ds rows u) (i : Nat) {B B' : Option Addr} {x y : List UInt8} (hi : rows[i]? = some (B, x)) (ha : Adds u u' B x B' y) : Kf w F l ds ((B', y) :: rows) u' := by
  refine (h.call ha.bel).also ha.bys fun h0 a e en he hc => ?_
  rcases ha.new with ⟨rfl, rfl⟩ | h1
  · exact h.free _ (List.mem_of_getElem? hi) h0 a e en he hc
  · have := h1 a e
    have := EntAt.lt (h.ent en he) (.inr hc)
    omega
theorem rapp_gen (z f : Nat) (B : Option Addr) (n cb : Nat) (x : List UInt8) (hx : x.length = n) (hcb : n ≤ cb) (A : Option Addr) (k c : Nat) (m : List UInt8) (hm : m.length = k) (hz : z ≤ 1048576) (hn : n ≤ z) (hk : k ≤ 1048576) (w : World) (hB : Bys w B x) (hA : Bys w A m) :
    Calls Try.prog 21 #[.agg #[.int .i64 z, .int .i64 f, .slice B n cb], .slice A k c] w fun e w' => ∃ (B' : Option Addr) (n' c' : Nat) (ok : Bool), e = .returned (.tuple #[.agg #[.int .i64 z, .int .i64 f, .slice B' n' c'], .bool ok]) ∧ (ok = true ↔ n + k ≤ z) ∧ (apD z x m).length = n' ∧ n' ≤ c' ∧ Adds w w' B x B' (apD z x m) := by
  by_cases h0 : n + k ≤ z
  · refine (rapp_any z f B n cb x hx A k c m hm hz h0 w hB hA).mono fun e w' ⟨B', c', he, hk⟩ => ?_
    have e1 : apD z x m = x ++ m := by rw [apD, if_pos (by omega)]
    have e2 : (x ++ m).length = n + k := by rw [List.length_append]; omega
    obtain ⟨A', c2, hv, hc⟩ := hk.own.slice
    injection hv with _ _ hv3
    rw [e1]
    exact ⟨B', n + k, c', true, he, by simp [h0], e2, by omega, hk.adds⟩
  · refine (rapp_full z f B n cb A k c hz (by omega) (by omega) hk w).mono fun e w' ⟨he, hb⟩ => ?_
    have e1 : apD z x m = x := by rw [apD, if_neg (by omega)]
    rw [e1]
    exact ⟨B, n, cb, false, he, by simp [h0], hx, hcb, hb, hB.below hb, .inl ⟨rfl, rfl⟩⟩
/-! ### What a step ends with. -/
def DEnd (w : World) (r z : Nat) (v : Value) (same : Prop) (g' : Nat) (y : List UInt8) (g : Nat) (D : List UInt8) (e : Ending) (w' : World) : Prop :=
  ∃ (B' : Option Addr) (n' c' : Nat) (bo : Bool) (v' : Value), e = .returned (.tuple #[.agg #[.int .i64 z, .int .i64 g', .slice B' n' c'], .bool bo]) ∧ y.length = n' ∧ n' ≤ c' ∧ (same → bo = true) ∧ Dk w' r z v' g D ∧ Mv w w' r v v' ∧ Bys w' B' y ∧ (y ≠ [] → ∀ a, B' = some a → v'.ownBlock ≠ some a.block)
theorem DEnd.of {w u : World} {r z : Nat} {v v' : Value} {f : Int} {d : List UInt8} (hd : Dk w r z v f d) {same : Prop} {g' g : Nat} {y D : List UInt8} {l : List (Nat × TypeId × List Value)} {rows : List (Option Addr × List UInt8)} {B' : Option Addr} {n' c' : Nat} {bo : Bool}
    (hk : Kf w (fun k => k = r ∨ v.ownBlock = some k) l [⟨some r, z, g, v', D⟩] ((B', y) :: rows) u) (hl : y.length = n') (hc : n' ≤ c') (hb : same → bo = true) : DEnd w r z v same g' y g D (.returned (.tuple #[.agg #[.int .i64 z, .int .i64 g', .slice B' n' c'], .bool bo])) u :=
  ⟨B', n', c', bo, v', rfl, hl, hc, hb, hk.dk 0 rfl, hk.moved hd, hk.rowAt 0 rfl, fun h0 a ha => hk.free _ (List.mem_cons_self ..) h0 a ha _ (List.mem_singleton.2 rfl)⟩
/-- What a step is handed. -/
structure Din (w : World) (r z f f' : Nat) (v : Value) (d : List UInt8) (B : Option Addr) (n cb : Nat) (x : List UInt8) (sA : Option Addr) (k : Nat) (sb : List UInt8) : Prop where
  dk : Dk w r z v f d
  hz : z ≤ 1048576
  hd : d.length ≤ z
  hf : f ≤ d.length
  hx : x.length = n
  hn : n ≤ z
  hc : n ≤ cb
  hf' : f' ≤ n
  hB : Bys w B x
  hB' : x ≠ [] → ∀ a, B = some a → v.ownBlock ≠ some a.block
  hs : sb.length = k
  hk : k ≤ 1048576
  hA : Bys w sA sb
  hA' : sb ≠ [] → ∀ a, sA = some a → v.ownBlock ≠ some a.block
theorem Din.kf {w : World} {r z f f' : Nat} {v : Value} {d : List UInt8} {B : Option Addr} {n cb : Nat} {x : List UInt8} {sA : Option Addr} {k : Nat} {sb : List UInt8} (h : Din w r z f f' v d B n cb x sA k sb) :
    Kf w (fun k => k = r ∨ v.ownBlock = some k) [] [⟨some r, z, f, v, d⟩] [(B, x), (sA, sb)] w :=
  Kf.given h.dk fun y hy => by
    rcases List.mem_cons.1 hy with rfl | hy
    · exact ⟨h.hB, h.hB'⟩
    · simp only [List.mem_singleton] at hy
      subst hy
      exact ⟨h.hA, h.hA'⟩
set_option maxRecDepth 100000 in
theorem does1 (w : World) (r z f f' : Nat) (v : Value) (d : List UInt8) (B : Option Addr) (n cb : Nat) (x : List UInt8) (sn sm : Int) (sA : Option Addr) (k sc : Nat) (sb : List UInt8) (h : Din w r z f f' v d B n cb x sA k sb) : Calls Try.prog 12 #[.pointer (some ⟨r, 0, none⟩), .agg #[.int .i64 z, .int .i64 f', .slice B n cb], .agg #[.int .i64 1, .int .i64 sn, .int .i64 sm, .slice sA k sc]] w (DEnd w r z v (f = f' ∧ d = x) n x d.length d) := by
  have HN := Lib.hid (show d.length = d.length from rfl)
  generalize hq : d.length = N at HN
  have HQ := Lib.hid hq
  clear hq HN
  have HK := Lib.hid h.kf
  have HD := Lib.hid h.dk
  have HH := Lib.hid h
  clear h
  have T1 := True.intro
  go_enter Try.func12, Try.ntmps12
  go_wp2_with (first
    | (clear T1; (with_reducible refine box_k HK.out rfl rfl _ rfl rfl rfl ?_); intro b1 u hk; clear HK; have HK := Lib.hid hk; clear hk)
    | ((with_reducible refine box_k HK.out rfl rfl _ rfl rfl rfl ?_); intro b2 u hk; clear HK; have HK := Lib.hid hk; clear hk)
    | ((with_reducible refine alloc_k HK.out rfl r_zero rfl rfl rfl ?_); intro b3 u hk; clear HK; have HK := Lib.hid hk; clear hk)
    | (with_reducible refine load_k1 HK.out 1 rfl _ rfl rfl rfl rfl rfl ?_)
    | (go_at_call 18; (with_reducible refine (sync_any r _ _ _ _ N HQ.out _ (HK.out.dk 0 rfl)).mono ?_); rintro e u ⟨rfl, hd, hm⟩; have hk := HK.out.disk 0 rfl hm hd; simp only [List.set_cons_zero] at hk; clear hd hm; clear HK; have HK := Lib.hid hk; clear hk)
    | (with_reducible refine load_k1 HK.out 2 rfl _ rfl rfl rfl rfl rfl ?_)
    | ((with_reducible refine store_k1 (v := .int .i64 (n : Int)) HK.out 2 rfl rfl rfl _ _ rfl rfl rfl rfl rfl (by simp) rfl (by simp [noU, isU]) ?_); intro u hk; simp only [List.set_cons_zero, List.set_cons_succ] at hk; clear HK; have HK := Lib.hid hk; clear hk)
    | (with_reducible refine load_kr HK.out 2 Try.underlying29 rfl r_info _ rfl rfl rfl rfl rfl ?_)
    | ((with_reducible refine store_kr (xs := [.int .i64 z, .int .i64 (n : Int), .slice B n cb]) HK.out 0 r_info rfl rfl _ _ rfl rfl rfl rfl (by simp) (by simp) (by simp [noU, isU]) (by simp [Value.oneCell']) ?_); intro u hk; simp only [List.set_cons_zero] at hk; clear HK; have HK := Lib.hid hk; clear hk))
  exact bodyPost_ret (results_k2 rfl Try.underlying29 rfl r_info _ HK.out 0 _ rfl rfl rfl rfl) rfl (DEnd.of HD.out HK.out HH.out.hx HH.out.hc fun _ => rfl)
set_option maxRecDepth 100000 in
theorem does5 (w : World) (r z f f' : Nat) (v : Value) (d : List UInt8) (B : Option Addr) (n cb : Nat) (x : List UInt8) (sn sm : Int) (sA : Option Addr) (k sc : Nat) (sb : List UInt8) (h : Din w r z f f' v d B n cb x sA k sb) (vb : Int) (h0 : vb ≠ 0) (h1 : vb ≠ 1) (h2 : vb ≠ 2) (h3 : vb ≠ 3) (h4 : vb ≠ 4) : Calls Try.prog 12 #[.pointer (some ⟨r, 0, none⟩), .agg #[.int .i64 z, .int .i64 f', .slice B n cb], .agg #[.int .i64 vb, .int .i64 sn, .int .i64 sm, .slice sA k sc]] w (DEnd w r z v (f = f' ∧ d = x) f' x f d) := by
  have HK := Lib.hid h.kf
  have HD := Lib.hid h.dk
  have HH := Lib.hid h
  clear h
  have T1 := True.intro
  go_enter Try.func12, Try.ntmps12
  go_wp2_with (first
    | (clear T1; (with_reducible refine box_k HK.out rfl rfl _ rfl rfl rfl ?_); intro b1 u hk; clear HK; have HK := Lib.hid hk; clear hk)
    | ((with_reducible refine box_k HK.out rfl rfl _ rfl rfl rfl ?_); intro b2 u hk; clear HK; have HK := Lib.hid hk; clear hk)
    | ((with_reducible refine alloc_k HK.out rfl r_zero rfl rfl rfl ?_); intro b3 u hk; clear HK; have HK := Lib.hid hk; clear hk)
    | (with_reducible refine load_k1 HK.out 1 rfl _ rfl rfl rfl rfl rfl ?_)
    | (with_reducible refine load_kr HK.out 2 Try.underlying29 rfl r_info _ rfl rfl rfl rfl rfl ?_)
    | ((with_reducible refine store_kr (xs := [.int .i64 z, .int .i64 (f' : Int), .slice B n cb]) HK.out 0 r_info rfl rfl _ _ rfl rfl rfl rfl (by simp) (by simp) (by simp [noU, isU]) (by simp [Value.oneCell']) ?_); intro u hk; simp only [List.set_cons_zero] at hk; clear HK; have HK := Lib.hid hk; clear hk))
  exact bodyPost_ret (results_k2 rfl Try.underlying29 rfl r_info _ HK.out 0 _ rfl rfl rfl rfl) rfl (DEnd.of HD.out HK.out HH.out.hx HH.out.hc fun _ => rfl)
end Go.Proofs.Ytglhjfcngpednaa
