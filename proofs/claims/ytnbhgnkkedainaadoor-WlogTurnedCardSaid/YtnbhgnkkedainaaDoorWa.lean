/- Contracts of a log's Len, Last and All. -/
import Derived.Test.YtnbhgnkkedainaaDoorTh
namespace Go.Proofs.YtnbhgnkkedainaaDoor
open Go.ChangeShapes Go.WideShapes Go.ChangeAt Go.RowKit

theorem Lo.slice {u : World} {r rd : Nat} {v : Value} {L : List BPart} (h : Lo u r rd v L) : ∃ A c, v = .slice A L.length c ∧ L.length ≤ c := by
  rcases h.own.2 with ⟨rfl, h0⟩ | ⟨g, cap, cur, rfl, _, _, h1, _⟩
  · exact ⟨none, 0, by rw [h0], by omega⟩
  · exact ⟨_, _, rfl, h1⟩
/-- One of its records. -/
theorem Lo.one {u : World} {r rd : Nat} {A : Option Addr} {n c : Nat} {L : List BPart} (h : Lo u r rd (.slice A n c) L) {m : Nat} {A1 : Option Addr} {c1 : Nat} {T : List UInt8} (hm : L[m]? = some (A1, c1, T)) : ∃ g, A = some ⟨g, 0, none⟩ ∧ u.cell? ⟨g, m, none⟩ = some (.slice A1 T.length c1) ∧ Own u 0 (.slice A1 T.length c1) T := by
  have hlt : m < L.length := (List.getElem?_eq_some_iff.1 hm).1
  have ho := h.all _ (List.mem_of_getElem? hm)
  rcases h.own.2 with ⟨h1, h0⟩ | ⟨g, cap, cur, h1, h2, h3, _⟩
  · omega
  · injection h1 with e1 e2 e3
    subst e1
    refine ⟨g, rfl, ?_, ho⟩
    have hpx : (prts L)[m]? = some (.slice A1 T.length c1) := by simp [prts, hm, prt]
    have := h.own.cells (g := g) rfl m _ hpx
    rw [Go.WideShapes.add_plain] at this
    simpa using this
theorem Lo.c0 {u : World} {r rd : Nat} {v : Value} {L : List BPart} (h : Lo u r rd v L) : u.cell? ⟨r, 0, none⟩ = some (.pointer (some ⟨rd, 0, none⟩)) := h.cel.cell rfl
theorem Lo.c1 {u : World} {r rd : Nat} {v : Value} {L : List BPart} (h : Lo u r rd v L) : u.cell? ⟨r, 1, none⟩ = some v := h.cel.cell rfl
theorem Lo.below {w w' : World} {r rd : Nat} {v : Value} {L : List BPart} (h : Lo w r rd v L) (hb : Below w.heap.size w w') : Lo w' r rd v L := (Th.lo r rd v L).stay h fun k hk => hb.block k ((Th.lo r rd v L).lt h hk)
theorem len_any (r rd : Nat) (v : Value) (L : List BPart) (n : Nat) (hn : L.length = n) (w : World) (h : Lo w r rd v L) :
    Calls Tryd.prog 21 #[.pointer (some ⟨r, 0, none⟩)] w fun e w' => e = .returned (.int .i64 (n : Int)) ∧ w = w' := by
  obtain ⟨A, c, rfl, _⟩ := h.slice
  have c1 := h.c1
  rw [hn] at c1
  clear h hn
  go_enter Tryd.func21, Tryd.ntmps21
  go_wp2
  go_ret
  exact ⟨rfl, rfl⟩
theorem len_no (w : World) : Calls Tryd.prog 21 #[.pointer none] w fun e w' => e = .returned (.int .i64 0) ∧ w = w' := by
  go_enter Tryd.func21, Tryd.ntmps21
  go_wp2
  go_ret
  exact ⟨rfl, rfl⟩
/-- What telling the last record ends with. -/
def MakesT (w : World) (l : List UInt8) (e : Ending) (w' : World) : Prop := ∃ A c, (e = .returned (.tuple #[.slice A l.length c, .bool true]) ∧ l.length ≤ c) ∧ KO w (.slice A l.length c) l w'
theorem last_any (r rd : Nat) (v : Value) (L : List BPart) (n : Nat) (hn : L.length = n + 1) (hnx : n ≤ 1000000) (A1 : Option Addr) (c1 : Nat) (p : List UInt8) (hp : L[n]? = some (A1, c1, p)) (hm : p.length ≤ 1000000) (w : World) (h : Lo w r rd v L) :
    Calls Tryd.prog 18 #[.pointer (some ⟨r, 0, none⟩)] w (MakesT w p) := by
  have hl := len_any r rd v L (n + 1) hn w h
  obtain ⟨A, c, rfl, _⟩ := h.slice
  have e1 := h.c1
  obtain ⟨g, rfl, hc, ho⟩ := h.one hp
  have hx := clone_any A1 p.length c1 p rfl hm w ho.bys
  rw [hn] at e1
  clear h hn ho
  generalize p.length = k at *
  have i0 : ¬ ((n + 1 : Nat) : Int) = 0 := by omega
  have i1 : IntKind.i64.wrap (((n + 1 : Nat) : Int) - 1) = (n : Int) := by rw [IntKind.wrap_i64]; omega
  go_enter Tryd.func18, Tryd.ntmps18
  go_wp2_with (first
    | (go_at_call 21; (with_reducible refine hl.mono ?_); rintro e u ⟨rfl, rfl⟩)
    | (go_at_call 32; (with_reducible refine hx.mono ?_); rintro e u ⟨A3, c3, ⟨rfl, hc3⟩, hk⟩; have HK := Lib.hid hk; have HC3 := Lib.hid hc3; clear hk hc3))
  go_ret2
  exact ⟨A3, c3, ⟨rfl, HC3.out⟩, HK.out⟩
theorem last_none (r rd : Nat) (v : Value) (w : World) (h : Lo w r rd v []) :
    Calls Tryd.prog 18 #[.pointer (some ⟨r, 0, none⟩)] w fun e w' => e = .returned (.tuple #[.slice none 0 0, .bool false]) ∧ w = w' := by
  have hl := len_any r rd v [] 0 rfl w h
  clear h
  go_enter Tryd.func18, Tryd.ntmps18
  go_wp2_with (first
    | (go_at_call 21; (with_reducible refine hl.mono ?_); rintro e u ⟨rfl, rfl⟩))
  go_ret2
  exact ⟨rfl, rfl⟩
theorem last_no (w : World) : Calls Tryd.prog 18 #[.pointer none] w fun e w' => e = .returned (.tuple #[.slice none 0 0, .bool false]) ∧ w = w' := by
  have hl := len_no w
  go_enter Tryd.func18, Tryd.ntmps18
  go_wp2_with (first
    | (go_at_call 21; (with_reducible refine hl.mono ?_); rintro e u ⟨rfl, rfl⟩))
  go_ret2
  exact ⟨rfl, rfl⟩
theorem all_no (w : World) : Calls Tryd.prog 20 #[.pointer none] w fun e w' => e = .returned (.slice none 0 0) ∧ w = w' := by
  have hl := len_no w
  go_enter Tryd.func20, Tryd.ntmps20
  go_wp2_with (first
    | (go_at_call 21; (with_reducible refine hl.mono ?_); rintro e u ⟨rfl, rfl⟩))
  go_loopw [3, 7] (fun v i wr => v = .slice none 0 0 ∧ i = .int .i64 0 ∧ wr = w) (fun _ _ _ => 0)
  case atStart => exact ⟨rfl, rfl, rfl⟩
  case round =>
    obtain ⟨rfl, rfl, rfl⟩ := hrel
    go_wp2
    go_ret
    exact ⟨rfl, rfl⟩
/-- All of its records, each a copy. -/
theorem all_any (r rd : Nat) (v : Value) (L : List BPart) (n : Nat) (hn : L.length = n) (hmx : n ≤ 1000000) (hm : ∀ x ∈ L, x.2.2.length ≤ 1000000) (w : World) (h : Lo w r rd v L) :
    Calls Tryd.prog 20 #[.pointer (some ⟨r, 0, none⟩)] w fun e w' => ∃ A c M, (e = .returned (.slice A n c) ∧ n ≤ c) ∧ txt M = txt L ∧ KL w (.slice A n c) M w' := by
  have HL := Lib.hid h
  have hl := len_any r rd v L n hn w h
  obtain ⟨A, c, rfl, _⟩ := h.slice
  have HN := Lib.hid hn
  rw [hn] at HL
  clear h hn
  have HM := Lib.hid hm
  clear hm
  go_enter Tryd.func20, Tryd.ntmps20
  go_wp2_with (first
    | (go_at_call 21; (with_reducible refine hl.mono ?_); rintro e u ⟨rfl, rfl⟩))
  clear hl
  go_loopw [3, 7] (fun v i wr => ∃ (M : List BPart) (m : Nat), m ≤ n ∧ i = .int .i64 (m : Int) ∧ KL w v M wr ∧ txt M = (txt L).take m) (fun _ i _ => n - (intOf i).toNat)
  case atStart => exact ⟨[], 0, by omega, rfl, KL.start (Below.refl _ _), by simp [txt]⟩
  case round =>
    obtain ⟨M, m, hm, rfl, hk, ht⟩ := hrel
    have HK := Lib.hid hk
    have HT := Lib.hid ht
    clear hk ht
    by_cases hlt : m < n
    · obtain ⟨A1, c1, hx⟩ := txt_get (L := L) rfl (m := m) (by rw [txt_length]; have := HN.out; omega)
      have hT := HT.out
      have hmem := HM.out _ (List.mem_of_getElem? hx)
      have htk : (txt L).take (m + 1) = (txt L).take m ++ [(txt L).getD m []] := by
        rw [List.take_add_one, List.getElem?_eq_getElem (by rw [txt_length]; have := HN.out; omega)]
        simp [List.getD, txt_length, show m < L.length by have := HN.out; omega]
      generalize (txt L).getD m [] = T at *
      have hlo := HL.out.below HK.out.bel
      obtain ⟨g, rfl, hc, ho⟩ := hlo.one hx
      have e1 := hlo.c1
      have HY := Lib.hid ho.bys
      have HTK := Lib.hid (show (txt L).take (m + 1) = txt M ++ [T] by rw [htk, hT])
      have HMM := Lib.hid (show M.length ≤ 1048000 by
        have := congrArg List.length hT
        rw [txt_length, List.length_take, txt_length] at this
        have := HN.out
        omega)
      have i1 : (0 : Int) ≤ (m : Int) := by omega
      have i2 : (m : Int) < (n : Int) := by omega
      have HMEM := Lib.hid hmem
      clear hx hT hmem htk hlo ho
      go_wp2_with (first
        | (go_at_call 32; (with_reducible refine (clone_any A1 _ c1 T rfl HMEM.out _ HY.out).mono ?_); rintro e u ⟨A3, c3, ⟨rfl, hc3⟩, hk⟩; have hkl := HK.out.call hk.bel; have hp := hk.own.mono HK.out.bel.size; clear HK hk hc3; have HK := Lib.hid hkl; have HO := Lib.hid hp; clear hkl hp)
        | (refine app_part HK.out rfl HO.out rfl _ _ rfl rfl rfl HMM.out ?_; intro v' u' hk; clear HK; have HK := Lib.hid hk; clear hk))
      go_roundw
      case rel => exact ⟨M ++ [(A3, c3, T)], m + 1, by omega, by go_num, HK.out, by rw [HTK.out, txt_append]; simp [txt]⟩
      case measure => simp [intOf]; omega
    · obtain rfl : m = n := by omega
      go_wp2
      go_ret
      have ht : txt M = txt L := by
        have := HT.out
        rwa [List.take_of_length_le (by rw [txt_length, HN.out]; exact Nat.le_refl _)] at this
      obtain ⟨A', c', hv, hc'⟩ := HK.out.slice
      have hML : M.length = m := by
        have := congrArg List.length ht
        rw [txt_length, txt_length] at this
        rw [this, HN.out]
      rw [hML] at hv hc'
      subst hv
      exact ⟨A', c', M, ⟨rfl, hc'⟩, ht, HK.out⟩
end Go.Proofs.YtnbhgnkkedainaaDoor
