/- Contracts of octets.Number, Text and New, of slices.Clone of bytes, and of the document's Text. -/
import Derived.Test.YtphoaklbjljfnaaOs
import Derived.Laws.Cover3
namespace Go.Proofs.Ytphoaklbjljfnaa
open Go.ChangeShapes Go.WideShapes Go.ChangeAt Go.RowKit

theorem KO.lift {w0 w w' : World} {v : Value} {l : List UInt8} (hb : Below w0.heap.size w0 w) (h : KO w v l w') : KO w0 v l w' := ⟨hb.trans (h.bel.mono hb.size), h.own.mono hb.size⟩
/-- What a call that makes bytes ends with. -/
def Makes (w : World) (l : List UInt8) (e : Ending) (w' : World) : Prop := ∃ A c, (e = .returned (.slice A l.length c) ∧ l.length ≤ c) ∧ KO w (.slice A l.length c) l w'
theorem parts2 {u : World} {A A2 : Option Addr} {c c2 k k2 : Nat} {l m : List UInt8} (hl : l.length = k) (hm : m.length = k2) (h1 : Bys u A l) (h2 : Bys u A2 m) : PartsAt (u.alloc (.cells #[.slice A k c, .slice A2 k2 c2] 22)) u.heap.size [(A, c, l), (A2, c2, m)] := by
  subst hl; subst hm
  have hh := heap_alloc_new u (.cells #[.slice A l.length c, .slice A2 m.length c2] 22)
  intro i x hx
  match i, hx with
  | 0, hx =>
    simp at hx; subst hx
    exact ⟨by rw [cell_of_row _ u.heap.size 0 _ 22 _ hh]; rfl, h1.below (below_new _ _)⟩
  | 1, hx =>
    simp at hx; subst hx
    exact ⟨by rw [cell_of_row _ u.heap.size 1 _ 22 _ hh]; rfl, h2.below (below_new _ _)⟩
  | n + 2, hx => simp at hx
theorem concat2 (b cap : Nat) (A A2 : Option Addr) (c c2 : Nat) (l m : List UInt8) (h0 : 0 < m.length) (h1 : l.length + m.length ≤ 100000) (w : World) (hp : PartsAt w b [(A, c, l), (A2, c2, m)]) :
    Calls Try.prog 18 #[.slice (some ⟨b, 0, none⟩) 2 cap] w (Makes w (l ++ m)) := by
  have e : partL [(A, c, l), (A2, c2, m)] = l ++ m := by simp [partL]
  have h := concat_any b cap [(A, c, l), (A2, c2, m)] (by rw [e, List.length_append]; omega) (by rw [e, List.length_append]; exact h1) (by simp) w hp
  rw [e] at h
  exact h
theorem eq_nil (A : Option Addr) (k c : Nat) (W : World) : (binOp .eql 22 (.slice A k c) (.slice none 0 0)).run Try.prog W = .ok (.bool A.isNone) W := by
  simp only [binOp]
  simp [run_equal_slice_nil W 22 5 A k c Try.underlying22]
theorem number_any (A : Option Addr) (k c : Nat) (l : List UInt8) (n : Int) (hl : l.length = k) (hm : k ≤ 90000) (w : World) (hd : Bys w A l) :
    Calls Try.prog 9 #[.slice A k c, .int .i64 n] w (Makes w (l ++ enc (fold n))) := by
  have h6 := enc_six (fold_lt n)
  have h0 := enc_pos (fold n)
  have hc := coded_any n
  generalize enc (fold n) = E at *
  have HD := Lib.hid hd; have HL := Lib.hid hl
  clear hd hl
  have HK := Lib.hid True.intro
  go_enter Try.func9, Try.ntmps9
  go_wp2_with (first
    | (go_at_call 19; (with_reducible refine (hc _).mono ?_); rintro e u ⟨A2, c2, ⟨rfl, _⟩, hk⟩; clear HK; have HK := Lib.hid hk; clear hk)
    | (go_at_call 18; (refine (concat2 _ _ A A2 c c2 l E h0 (by rw [HL.out]; omega) _ (parts2 HL.out rfl (HD.out.below HK.out.bel) HK.out.own.bys)).mono ?_); rintro e u ⟨A3, c3, ⟨rfl, hc3⟩, hk⟩; have hk := hk.lift (HK.out.bel.trans ((below_new _ _).mono HK.out.bel.size)); clear HK; have HK := Lib.hid hk; have HC := Lib.hid hc3; clear hk hc3))
  go_ret
  exact ⟨A3, c3, ⟨by rw [List.length_append]; rfl, HC.out⟩, HK.out⟩
theorem makes_of {w0 w : World} {v : Value} {l : List UInt8} (h : KO w0 v l w) : Makes w0 l (.returned v) w := h.out
theorem text_any (A : Option Addr) (k c : Nat) (l : List UInt8) (s : ByteArray) (hl : l.length = k) (hm : k ≤ 90000) (hs : s.size ≤ 90000) (w : World) (hd : Bys w A l) :
    Calls Try.prog 11 #[.slice A k c, .string s] w (Makes w (l ++ enc (fold s.size) ++ s.data.toList)) := by
  have hn := number_any A k c l s.size hl hm w hd
  have h6 := enc_six (fold_lt s.size)
  have hE : (l ++ enc (fold s.size)).length ≤ 90006 := by rw [List.length_append]; omega
  generalize l ++ enc (fold s.size) = E at *
  have HE := Lib.hid hE
  clear hE h6 hd hl
  have HK := Lib.hid True.intro
  go_enter Try.func11, Try.ntmps11
  go_wp2_with (first
    | (go_at_call 9; (with_reducible refine hn.mono ?_); rintro e u ⟨A2, c2, ⟨rfl, _⟩, hk⟩; clear HK; have HK := Lib.hid hk; clear hk)
    | (refine app_text HK.out s rfl _ _ rfl rfl rfl (by have := HE.out; omega) ?_; intro v' u hk; clear HK; have HK := Lib.hid hk; clear hk))
  go_ret
  exact makes_of HK.out
theorem rtext_any (s : ByteArray) (hs : s.size ≤ 90000) (w : World) :
    Calls Try.prog 12 #[.string s] w (Makes w (enc (fold s.size) ++ s.data.toList)) := by
  have hn := rnumber_any s.size
  have h6 := enc_six (fold_lt s.size)
  generalize enc (fold s.size) = E at *
  have HE := Lib.hid h6
  clear h6
  have HS := Lib.hid (show s.data.toList.length = s.size by simp)
  have HK := Lib.hid True.intro
  go_enter Try.func12, Try.ntmps12
  go_wp2_with (first
    | (go_at_call 10; (with_reducible refine (hn _).mono ?_); rintro e u ⟨A2, c2, ⟨rfl, _⟩, hk⟩; clear HK; have HK := Lib.hid hk; clear hk)
    | (refine to_bys s rfl _ rfl rfl ?_; intro A3 c3 u hr hb; have hk := HK.out.call hb; clear HK hb; have HK := Lib.hid hk; have HR := Lib.hid hr; clear hk hr)
    | (refine app_more HK.out HR.out HS.out rfl _ _ rfl rfl rfl (by rw [HS.out]; have := HE.out; omega) ?_; intro v' u hk; clear HK; have HK := Lib.hid hk; clear hk))
  go_ret
  exact makes_of HK.out
theorem run_build0 (u : World) : (Instr.buildSlice 22 0 #[]).run Try.prog u = .ok (.slice (some ⟨u.heap.size, 0, none⟩) 0 0) (u.alloc (.cells #[] 5)) := by
  obtain ⟨i0, hi0, hz0, hz1, hz2⟩ := info_parts b_info
  simp [Instr.buildSlice, run_underlying Try.underlying22, sizeOf, typeInfo, hi0, Instr.fill, newRow, newObj]
  rw [show Array.map (fun _ : Nat => (default : Value)) (Array.range 0) = #[] from by simp]
  rfl
/-- A row with none. -/
theorem build_none {w0 u : World} {ops : Array Oper} {rest : List Oper} {o : Oper} {a : Act} {Q : Exit → Act → World → Prop} (hb : Below w0.heap.size w0 u) (hgd : o.guard = none) (ho : o.op = .buildSlice 22 0 #[])
    (h : ∀ v u', KO w0 v [] u' → Below u.heap.size u u' → wpList Try.prog ops Q rest (a.put o.dst v) u') : wpList Try.prog ops Q (o :: rest) a u :=
  wpList_plain hgd fun K hK => by
    unfold Oper.wp execOp
    simp only [ho, List.map_toArray, List.map_nil, Sem.run_bind, Sem.run_pure, Result.andThen_ok, run_build0]
    exact hK _ _ (h _ _ ⟨hb.trans ((below_new _ _).mono hb.size), (own_new u #[] [] rfl (by simp [maxLen])).mono hb.size⟩ (below_new _ _))
theorem clone_any (A : Option Addr) (k c : Nat) (l : List UInt8) (hl : l.length = k) (hm : k ≤ 1000000) (w : World) (hd : Bys w A l) :
    Calls Try.prog 21 #[.slice A k c] w (Makes w l) := by
  have HD := Lib.hid hd; have HL := Lib.hid hl
  clear hl
  cases A with
  | none =>
    have hE : l = [] := by
      rcases hd with h | ⟨b, off, h, _⟩
      · exact h
      · cases h
    subst hE
    obtain rfl : k = 0 := HL.out.symm
    clear hd
    have hq := eq_nil none 0 c
    simp only [Option.isNone_none] at hq
    go_enter Try.func21, Try.ntmps21
    go_wp2
    go_ret
    exact makes_of (KO.start w)
  | some ad =>
    clear hd
    have hq := eq_nil (some ad) k c
    simp only [Option.isNone_some] at hq
    have HK := Lib.hid (KO.start w)
    go_enter Try.func21, Try.ntmps21
    go_wp2_with (first
      | (with_reducible refine build_none HK.out.bel rfl rfl ?_; intro v u hk hb; have hd := HD.out.below hb; clear HD HK hb; have HK := Lib.hid hk; have HD := Lib.hid hd; clear hk hd)
      | (refine app_more HK.out HD.out HL.out rfl _ _ rfl rfl rfl (by simp [HL.out]; omega) ?_; intro v' u hk; clear HK; have HK := Lib.hid hk; clear hk))
    go_ret
    have hk := HK.out
    rw [List.nil_append] at hk
    exact makes_of hk
/-- A reader: what is left, and its error. -/
def Rd (w : World) (r : Nat) (l : List UInt8) (e : Int) : Prop := ∃ A c, w.heap[r]? = some (.cells #[.slice A l.length c, .int .i64 e] 44 (0, 0)) ∧ l.length ≤ c ∧ Bys w A l
theorem new_any (A : Option Addr) (k c : Nat) (l : List UInt8) (hl : l.length = k) (hm : k ≤ 1000000) (w : World) (hd : Bys w A l) :
    Calls Try.prog 13 #[.slice A k c] w fun e w' => ∃ r, e = .returned (.pointer (some ⟨r, 0, none⟩)) ∧ w.heap.size ≤ r ∧ Rd w' r l 0 ∧ Below w.heap.size w w' := by
  have hc := clone_any A k c l hl hm w hd
  clear hd hl
  have HK := Lib.hid True.intro
  go_enter Try.func13, Try.ntmps13
  go_wp2_with (first
    | (go_at_call 21; (with_reducible refine hc.mono ?_); rintro e u ⟨A2, c2, ⟨rfl, hc2⟩, hk⟩; clear HK; have HK := Lib.hid hk; have HC := Lib.hid hc2; clear hk hc2))
  go_ret
  exact ⟨_, rfl, HK.out.bel.size, ⟨A2, c2, heap_alloc_new _ _, HC.out, HK.out.own.bys.below (below_new _ _)⟩, HK.out.bel.trans ((below_new _ _).mono HK.out.bel.size)⟩
end Go.Proofs.Ytphoaklbjljfnaa
