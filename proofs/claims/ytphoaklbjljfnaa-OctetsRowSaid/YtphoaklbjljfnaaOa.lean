/- What the statements stand on: texts held against one another, a reader that the call made, and the contract of awake. -/
import Derived.Test.YtphoaklbjljfnaaOn
namespace Go.Proofs.Ytphoaklbjljfnaa
open Go.ChangeShapes Go.WideShapes Go.ChangeAt Go.RowKit

theorem wp_eq_str {o : Oper} {a : Act} {u : World} {K : Act → World → Prop} {Q : Exit → Act → World → Prop} {s t : ByteArray} {b : Bool} (hb : (s.toList == t.toList) = b) (x y : Operand) (ty : TypeId) (ho : o.op = .binOp .eql 9 x y ty) (hx : a.eval x = .string s) (hy : a.eval y = .string t)
    (h : K (a.put o.dst (.bool b)) u) : o.wp Try.prog a u K Q := by
  subst hb
  unfold Oper.wp execOp
  simp only [ho, hx, hy]
  simp [go_sem]
  simpa [Act.put] using h
theorem wp_ne_str {o : Oper} {a : Act} {u : World} {K : Act → World → Prop} {Q : Exit → Act → World → Prop} {s t : ByteArray} {b : Bool} (hb : (s.toList == t.toList) = b) (x y : Operand) (ty : TypeId) (ho : o.op = .binOp .neq 9 x y ty) (hx : a.eval x = .string s) (hy : a.eval y = .string t)
    (h : K (a.put o.dst (.bool !b)) u) : o.wp Try.prog a u K Q := by
  subst hb
  unfold Oper.wp execOp
  simp only [ho, hx, hy]
  simp [go_sem]
  simpa [Act.put] using h
theorem eq_str {ops : Array Oper} {rest : List Oper} {o : Oper} {a : Act} {u : World} {Q : Exit → Act → World → Prop} {s t : ByteArray} {b : Bool} (hb : (s.toList == t.toList) = b) (hgd : o.guard = none) (x y : Operand) (ty : TypeId) (ho : o.op = .binOp .eql 9 x y ty) (hx : a.eval x = .string s) (hy : a.eval y = .string t)
    (h : wpList Try.prog ops Q rest (a.put o.dst (.bool b)) u) : wpList Try.prog ops Q (o :: rest) a u :=
  wpList_plain hgd fun _ hK => wp_eq_str hb x y ty ho hx hy (hK _ _ h)
theorem eq_str_want {ops : Array Oper} {rest : List Oper} {o : Oper} {a : Act} {u : World} {Q : Exit → Act → World → Prop} {s t : ByteArray} {b : Bool} (hb : (s.toList == t.toList) = b) (x y : Operand) (ty : TypeId) (ho : o.op = .binOp .eql 9 x y ty) (hx : a.eval x = .string s) (hy : a.eval y = .string t)
    (hw : Region.wanted o (yielded ops a.tmps) = true) (h : wpList Try.prog ops Q rest (a.put o.dst (.bool b)) u) : wpList Try.prog ops Q (o :: rest) a u :=
  BigFrame.wpList_want hw fun _ hK => wp_eq_str hb x y ty ho hx hy (hK _ _ h)
theorem same_str {s t : ByteArray} (h : s = t) : (s.toList == t.toList) = true := by subst h; simp
/-- A reader of the call's own; all else is as it was. -/
structure RS (w0 : World) (r : Nat) (l : List UInt8) (e : Int) (u : World) : Prop where
  bel : Below w0.heap.size w0 u
  far : w0.heap.size ≤ r
  rd : Rd u r l e
theorem RS.made {w0 w u : World} {r : Nat} {l : List UInt8} (hb : Below w0.heap.size w0 w) (hr : w.heap.size ≤ r) (h : Rd u r l 0) (hu : Below w.heap.size w u) : RS w0 r l 0 u := ⟨hb.trans (hu.mono hb.size), Nat.le_trans hb.size hr, h⟩
theorem RS.call {w0 u u' : World} {r : Nat} {l : List UInt8} {e : Int} (h : RS w0 r l e u) (hb : Below u.heap.size u u') : RS w0 r l e u' := ⟨h.bel.trans (hb.mono h.bel.size), h.far, h.rd.below hb⟩
theorem RS.step {w0 u u' : World} {r : Nat} {l l' : List UInt8} {e e' : Int} (h : RS w0 r l e u) (h1 : Rd u' r l' e') (ho : Only r u u') : RS w0 r l' e' u' := ⟨ho.below h.bel h.far, h.far, h1⟩
theorem enc1 : enc (fold (-1)) = [1] := by rw [show fold (-1) = 1 by decide, enc_lt (by decide)]; decide
theorem enc64 : enc (fold 64) = [128, 1] := by rw [show fold 64 = 128 by decide, enc_ge (by decide), enc_lt (by decide)]; decide
theorem awake_walk (L1 L2 L3 : List UInt8) (hs : (⟨L2.toArray⟩ : ByteArray) = ⟨#[1, 128, 1]⟩) (hm : L2.length ≤ 1000)
    (h1 : ∀ w, Calls Try.prog 9 #[.slice none 0 0, .int .i64 (-1)] w (Makes w L1))
    (h2 : ∀ A c w, Bys w A L1 → Calls Try.prog 9 #[.slice A L1.length c, .int .i64 64] w (Makes w L2))
    (h3 : ∀ r w, Rd w r L2 0 → Calls Try.prog 14 #[.pointer (some ⟨r, 0, none⟩)] w fun e w' => e = .returned (.int .i64 (-1)) ∧ Rd w' r L3 0 ∧ Only r w w')
    (h4 : ∀ r w, Rd w r L3 0 → Calls Try.prog 14 #[.pointer (some ⟨r, 0, none⟩)] w fun e w' => e = .returned (.int .i64 64) ∧ Rd w' r [] 0 ∧ Only r w w')
    (w : World) : Calls Try.prog 8 #[] w fun e w' => e = .returned (.bool true) ∧ Below w.heap.size w w' := by
  have HS := Lib.hid (same_str hs)
  clear hs
  have HK := Lib.hid True.intro; have HR := Lib.hid True.intro
  go_enter Try.func8, Try.ntmps8
  go_wp2_with (first
    | (go_at_call 9; (with_reducible refine (h1 _).mono ?_); rintro e u ⟨A1, c1, ⟨rfl, _⟩, hk⟩; clear HK; have HK := Lib.hid hk; clear hk)
    | (go_at_call 9; (with_reducible refine (h2 _ _ _ HK.out.own.bys).mono ?_); rintro e u ⟨A2, c2, ⟨rfl, _⟩, hk⟩; have hk := hk.lift HK.out.bel; clear HK; have HK := Lib.hid hk; clear hk)
    | (go_at_call 13; (with_reducible refine (new_any _ _ _ L2 rfl (by omega) _ HK.out.own.bys).mono ?_); rintro e u ⟨r, rfl, hr, hd, hb⟩; have hs := RS.made HK.out.bel hr hd hb; have hk := HK.out.call hb; clear HK HR hr hd hb; have HK := Lib.hid hk; have HR := Lib.hid hs; clear hk hs)
    | (with_reducible refine to_str HK.out.own.bys rfl rfl _ rfl rfl ?_)
    | (refine eq_str HS.out rfl _ _ _ rfl rfl rfl ?_)
    | (go_at_call 14; (with_reducible refine (h3 _ _ HR.out.rd).mono ?_); rintro e u ⟨rfl, hd, ho⟩; have hs := HR.out.step hd ho; clear HR hd ho; have HR := Lib.hid hs; clear hs)
    | (go_at_call 14; (with_reducible refine (h4 _ _ HR.out.rd).mono ?_); rintro e u ⟨rfl, hd, ho⟩; have hs := HR.out.step hd ho; clear HR hd ho; have HR := Lib.hid hs; clear hs)
    | (go_at_call 16; (with_reducible refine (end_any _ _ _ _ HR.out.rd).mono ?_); rintro e u ⟨rfl, rfl⟩; rw [show endE [] 0 = 0 from rfl]))
  go_ret
  exact ⟨rfl, HR.out.bel⟩
theorem awake_any (w : World) : Calls Try.prog 8 #[] w fun e w' => e = .returned (.bool true) ∧ Below w.heap.size w w' := by
  refine awake_walk [1] [1, 128, 1] [128, 1] rfl (by decide) (fun w => ?_) (fun A c w h => ?_) (fun r w h => ?_) (fun r w h => ?_) w
  · have := number_any none 0 0 [] (-1) rfl (by decide) w (.inl rfl)
    rw [enc1] at this; exact this
  · have := number_any A 1 c [1] 64 rfl (by decide) w h
    rw [enc64] at this; exact this
  · have := rnum_enc r (-1) [128, 1] (by decide) w (by rw [enc1]; exact h)
    exact this
  · have := rnum_enc r 64 [] (by decide) w (by rw [enc64]; exact h)
    exact this
end Go.Proofs.Ytphoaklbjljfnaa
