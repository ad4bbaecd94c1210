/- What the statements of layer 10 stand on. -/
import Derived.Test.YtofngihdnjgmeaaLWh
namespace Go.Proofs.Ytofngihdnjgmeaa
set_option maxRecDepth 100000
open Go.ChangeShapes Go.WideShapes Go.ChangeAt Go.RowKit

theorem KeepF.fresh2 {w u u' : World} {l : List (Nat × TypeId × List Value)} {rows : List (Option Addr × Nat × List Ho)} (h : KeepF w l rows u) (hb : Below u.heap.size u u') {A B : Option Addr} {c d : Nat} {xs ys : List Ho} (r1 : Row u' A xs.length xs) (f1 : Fresh u.heap.size A c xs) (r2 : Row u' B ys.length ys) (f2 : Fresh u.heap.size B d ys) : KeepF w l ((A, xs.length, xs) :: (B, ys.length, ys) :: rows) u' := by
  have k1 := h.fresh hb r1 f1
  have k2 := h.fresh hb r2 f2
  refine ⟨k1.bel, k1.blk, k1.apart, fun r hr => ?_, fun r hr => ?_⟩
  · rcases List.mem_cons.1 hr with rfl | hr
    · exact r1
    · exact k2.row r hr
  · rcases List.mem_cons.1 hr with rfl | hr
    · exact k1.free _ List.mem_cons_self
    · exact k2.free r hr
def DnT (v : Int) (p g : Pf) (E : Int) (E2 : Int) (H : List Ho) : Prop := ∀ A c w, Row w A p.hs.length p.hs → Calls Try.prog 9 #[.int .i64 v, .agg (p.fd A c).cells.toArray] w fun e u => ∃ A1 c1 A2 c2, e = .returned (.tuple #[.agg (g.fd A1 c1).cells.toArray, .agg (rsc E2 A2 H.length c2).toArray, .int .i64 E]) ∧ Row u A1 g.hs.length g.hs ∧ Fresh w.heap.size A1 c1 g.hs ∧ Row u A2 H.length H ∧ Fresh w.heap.size A2 c2 H ∧ Below w.heap.size w u
theorem dn_t (v : Int) (hv : ok64W v) (p : Pf) (hp : p.full) (hN : p.nm.size ≤ 1000) : DnT v p (dP v p) (dnErr v p) (dE v p) (dH v p) := fun A c w h =>
  (down_any v hv p hp hN A c w h).mono fun _ _ ⟨A1, c1, A2, c2, he, hd⟩ => ⟨A1, c1, A2, c2, he, hd.r1, hd.f1, hd.r2, hd.f2, hd.bel⟩
theorem few_parts {p : Pf} (h : fewP p = true) : p.nm.size ≤ 100 ∧ p.hs.length ≤ 40 := by simpa [fewP] using h
theorem up_t (p : Pf) (hp : p.full) (hN : p.nm.size ≤ 1000) (e : Int) (he : ok64W e) (hs : List Ho) (hl : p.hs.length + hs.length ≤ 1000) (P : Pf) (E : Int) (hP : uP p e hs = P) (hE : upErr p e hs = E) (A : Option Addr) (c : Nat) (B : Option Addr) (d : Nat) (w : World) (hd : Row w A p.hs.length p.hs) (hd2 : Row w B hs.length hs) :
    Calls Try.prog 12 #[.agg (p.fd A c).cells.toArray, .agg (rsc e B hs.length d).toArray] w fun x u => ∃ A1 c1, x = .returned (.tuple #[.agg (P.fd A1 c1).cells.toArray, .int .i64 E]) ∧ Row u A1 P.hs.length P.hs ∧ Fresh w.heap.size A1 c1 P.hs ∧ Below w.heap.size w u := by
  subst hP; subst hE; exact up_any p hp hN A c e he B d hs hl w hd hd2
theorem ep_ok {p : Pf} (h : rightP p = true) : ok64W p.e := by
  have h3 := (right_parts h).2.1
  simp only [epB, Bool.and_eq_true, decide_eq_true_eq] at h3
  have := isB_iff.1 h3.2
  exact WalkArith.wf_i64 (by omega)
theorem posI {n : Nat} (h : 0 < n) : decide ((0 : Int) < (n : Int)) = true := by rw [decide_eq_true_eq]; omega
theorem negI {n : Nat} (h : ¬ 0 < n) : decide ((0 : Int) < (n : Int)) = false := by rw [decide_eq_false_iff_not]; omega
end Go.Proofs.Ytofngihdnjgmeaa
