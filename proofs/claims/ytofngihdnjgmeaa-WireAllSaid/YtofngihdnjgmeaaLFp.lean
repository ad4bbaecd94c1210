/- Fields as plain data, and what each call makes of them; fields that calls tell, in memory. -/
import Derived.Test.YtofngihdnjgmeaaLFr
import Derived.Test.YtofngihdnjgmeaaLHoLx
import Derived.Test.YtofngihdnjgmeaaLRtc
import Derived.Test.YtofngihdnjgmeaaLCtNew
namespace Go.Proofs.Ytofngihdnjgmeaa
set_option maxRecDepth 100000
open Go.ChangeShapes Go.WideShapes Go.ChangeAt Go.RowKit

/-- A field, with its holds. -/
structure Pf where
  nm : ByteArray
  k : Int
  e : Int
  C : List Int
  L : Lk
  hs : List Ho
/-- The same, its holds in memory. -/
def Pf.fd (p : Pf) (A : Option Addr) (c : Nat) : Fd := ⟨p.nm, p.k, p.e, p.C, p.L, A, p.hs.length, c⟩
def Pf.full (p : Pf) : Prop := p.C.length = 579
def zP : Pf := ⟨ByteArray.empty, 0, 0, zer 579, zL, []⟩
theorem zP_full : zP.full := zer_length 579
def Pf.setC (p : Pf) (D : List Int) : Pf := ⟨p.nm, p.k, p.e, D, p.L, p.hs⟩
def Pf.setH (p : Pf) (hs : List Ho) : Pf := ⟨p.nm, p.k, p.e, p.C, p.L, hs⟩
section
variable {p : Pf} {A : Option Addr} {c : Nat}
theorem Pf.toC (h : p.full) {D : List Int} (hD : D.length = 579) : spl (p.fd A c).cells 3 (vals D) = ((p.setC D).fd A c).cells := Fd.setC (f := p.fd A c) h hD
theorem Pf.toH (h : p.full) (B : Option Addr) (d : Nat) (hs : List Ho) : (p.fd A c).cells.set 586 (.slice B hs.length d) = ((p.setH hs).fd B d).cells := Fd.setH (f := p.fd A c) h B hs.length d
theorem Pf.ck : (p.fd A c).cells[1]? = some (.int .i64 p.k) := rfl
theorem Pf.cn : (p.fd A c).cells[0]? = some (.string p.nm) := rfl
theorem Pf.ce : (p.fd A c).cells[2]? = some (.int .i64 p.e) := rfl
theorem Pf.cC : ∀ j v, (vals p.C)[j]? = some v → (p.fd A c).cells[3 + j]? = some v := Fd.cC (p.fd A c)
theorem Pf.cL (h : p.full) : ∀ j v, (vals p.L.l)[j]? = some v → (p.fd A c).cells[582 + j]? = some v := Fd.cL (f := p.fd A c) h
theorem Pf.cH (h : p.full) : (p.fd A c).cells[586]? = some (.slice A p.hs.length c) := Fd.cH (f := p.fd A c) h
theorem Pf.all : ∀ j v, (p.fd A c).cells[j]? = some v → (p.fd A c).cells[0 + j]? = some v := Fd.all _
theorem Pf.len (h : p.full) : (p.fd A c).cells.length = 587 := Fd.len (f := p.fd A c) h
theorem Pf.infoC (h : p.full) : (Try.prog.info? 28).map (·.size) = some (vals p.C).length := c_infoF (f := p.fd none 0) h
theorem Pf.infoF (h : p.full) : (Try.prog.info? 33).map (·.size) = some (p.fd A c).cells.length := f_infoF (f := p.fd A c) h
theorem infoC {D : List Int} (h : D.length = 579) : (Try.prog.info? 28).map (·.size) = some (vals D).length := by rw [vals_length, h]; exact c_info
end

/-! ### What comes of each call. -/
def looseP (p : Pf) (k : Int) : Int := if p.k = 1 then freeN (dnR p.C) k - sumOf p.hs k else 0
def toldP (p : Pf) (e : Int) : Pf := if e = 0 then p else zP
theorem toldP_full {p : Pf} (h : p.full) (e : Int) : (toldP p e).full := by unfold toldP; split; exact h; exact zP_full
theorem toldP_0 (p : Pf) : toldP p 0 = p := rfl
theorem toldP_n (p : Pf) {e : Int} (h : e ≠ 0) : toldP p e = zP := if_neg h
def resPE (p : Pf) (k a d : Int) : Int := if p.k = 1 then (if looseP p k < a then 8 else resE p.hs k a d) else 17
def resPN (p : Pf) (k a d : Int) : Int := if p.k = 1 then (if looseP p k < a then 0 else resN p.hs k a d) else 0
def resPH (p : Pf) (k a d : Int) : List Ho := if looseP p k < a then p.hs else resL p.hs k a d
def resP (p : Pf) (k a d : Int) : Pf := toldP (p.setH (resPH p k a d)) (resPE p k a d)
def ctPE (s : ByteArray) (i l h : Int) : Int := if nameB s then newE i l h else 1
def ctP (s : ByteArray) (i l h : Int) : Pf := toldP ⟨s, 1, 0, newA i l h, zL, []⟩ (ctPE s i l h)
theorem resP_full {p : Pf} (h : p.full) (k a d : Int) : (resP p k a d).full := toldP_full (p := p.setH (resPH p k a d)) h _
/-! ### Holds that calls tell. -/
/-- A slice that a call told: it reads so, and lies where nothing lay, or is the one that was handed in. -/
structure Got (w : World) (A0 : Option Addr) (n0 : Nat) (u : World) (A : Option Addr) (c : Nat) (hs : List Ho) : Prop where
  row : Row u A hs.length hs
  cap : hs.length ≤ c
  new : ∀ a, A = some a → 0 < hs.length → w.heap.size ≤ a.block ∨ (A = A0 ∧ hs.length = n0)
theorem Own.cap {w : World} {base : Nat} {A : Option Addr} {n c : Nat} {hs : List Ho} (h : Own w base (.slice A n c) hs) : n ≤ c := by
  rcases h.2 with ⟨e, _⟩ | ⟨g, cap, cur, e, _, _, hn, _⟩
  · injection e with e1 e2 e3; omega
  · injection e with e1 e2 e3; omega
/-- It lies where nothing lay. -/
structure Fresh (B : Nat) (A : Option Addr) (c : Nat) (hs : List Ho) : Prop where
  cap : hs.length ≤ c
  new : ∀ a, A = some a → 0 < hs.length → B ≤ a.block
theorem Fresh.mono {B B' : Nat} {A : Option Addr} {c : Nat} {hs : List Ho} (h : Fresh B A c hs) (hB : B' ≤ B) : Fresh B' A c hs := ⟨h.cap, fun a ha h0 => Nat.le_trans hB (h.new a ha h0)⟩
theorem Fresh.own {u : World} {B : Nat} {A : Option Addr} {n c : Nat} {hs : List Ho} (h : Own u B (.slice A n c) hs) : Fresh B A c hs := by
  obtain ⟨A', c', e⟩ := h.slice
  injection e with e1 e2 e3
  subst e2
  refine ⟨h.cap, fun a ha _ => ?_⟩
  subst ha
  exact own_baseH h _ rfl
theorem Fresh.nil (B : Nat) (A : Option Addr) (c : Nat) : Fresh B A c [] := ⟨Nat.zero_le _, fun _ _ h => absurd h (by simp)⟩
theorem Got.of {w u : World} {A0 : Option Addr} {n0 : Nat} {A : Option Addr} {c : Nat} {hs : List Ho} (h : Row u A hs.length hs) (f : Fresh w.heap.size A c hs) : Got w A0 n0 u A c hs := ⟨h, f.cap, fun a ha h0 => .inl (f.new a ha h0)⟩
theorem Got.own {w u : World} {A0 : Option Addr} {n0 : Nat} {A : Option Addr} {n c : Nat} {hs : List Ho} (h : Own u w.heap.size (.slice A n c) hs) (hn : hs.length ≤ 1000) : Got w A0 n0 u A c hs := by
  obtain ⟨A', c', e⟩ := h.slice
  injection e with e1 e2 e3
  subst e2
  refine ⟨h.row hn, h.cap, fun a ha h0 => .inl ?_⟩
  subst ha
  exact own_baseH h _ rfl
theorem Got.same {w u : World} {A : Option Addr} {c : Nat} {hs : List Ho} (h : Row u A hs.length hs) (hc : hs.length ≤ c) : Got w A hs.length u A c hs := ⟨h, hc, fun _ _ _ => .inr ⟨rfl, rfl⟩⟩
theorem Got.nil (w u : World) (A0 : Option Addr) (n0 : Nat) (A : Option Addr) (c : Nat) : Got w A0 n0 u A c [] := ⟨Row.nil u A, Nat.zero_le _, fun _ _ h => absurd h (by simp)⟩
theorem Got.base {w w' u : World} {A0 : Option Addr} {n0 : Nat} {A : Option Addr} {c : Nat} {hs : List Ho} (h : Got w A0 n0 u A c hs) (hb : w'.heap.size ≤ w.heap.size) : Got w' A0 n0 u A c hs :=
  ⟨h.row, h.cap, fun a ha h0 => (h.new a ha h0).imp (fun h => Nat.le_trans hb h) id⟩
theorem Got.call {w u u' : World} {A0 : Option Addr} {n0 : Nat} {A : Option Addr} {c : Nat} {hs : List Ho} (h : Got w A0 n0 u A c hs) (hb : Below u.heap.size u u') : Got w A0 n0 u' A c hs := ⟨h.row.call hb, h.cap, h.new⟩
end Go.Proofs.Ytofngihdnjgmeaa
