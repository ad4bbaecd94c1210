/- Contracts of octets.coded, and of the document's Number (layer 8): the bytes of a number, in a row of the call's own. -/
import Derived.Test.YtphoaklbjljfnaaOf
namespace Go.Proofs.Ytphoaklbjljfnaa
open Go.ChangeShapes Go.WideShapes Go.ChangeAt Go.RowKit

/-- All is as it was; v is a row of the call's own that holds the bytes l. -/
structure KO (w0 : World) (v : Value) (l : List UInt8) (w : World) : Prop where
  bel : Below w0.heap.size w0 w
  own : Own w w0.heap.size v l
theorem KO.start (w : World) : KO w (.slice none 0 0) [] w := ⟨Below.refl _ _, Own.nil _ _⟩
theorem KO.call {w0 w w' : World} {v : Value} {l : List UInt8} (h : KO w0 v l w) (hb : Below w.heap.size w w') : KO w0 v l w' := ⟨h.bel.trans (hb.mono h.bel.size), h.own.below hb⟩
theorem below_new (w : World) (o : Obj) : Below w.heap.size w (w.alloc o) := (Below.refl _ _).alloc (Nat.le_refl _) _
/-- append(v, x): the one byte lies in a row of its own. -/
theorem app_one {w0 w : World} {ops : Array Oper} {rest : List Oper} {o : Oper} {a : Act} {Q : Exit → Act → World → Prop} {v : Value} {l : List UInt8} (hk : KO w0 v l w) {z : Int} (ch : UInt8) (hz : z = (ch.toNat : Int)) (hgd : o.guard = none) (s x : Operand)
    (ho : o.op = .call { callee := .builtin .append, args := #[s, x], argTypes := #[22, 22] }) (hs : a.eval s = v) (hx : a.eval x = .slice (some ⟨w.heap.size, 0, none⟩) 1 1) (h63 : l.length ≤ 1048000)
    (h : ∀ v' w', KO w0 v' (l ++ [ch]) w' → wpList Try.prog ops Q rest (a.put o.dst v') w') : wpList Try.prog ops Q (o :: rest) a (w.alloc (.cells #[.int .u8 z] 5)) := by
  have h1 := hk.call (below_new w (.cells #[.int .u8 z] 5))
  exact app_bys h1.own h1.bel.size (bys_new w z ch hz) rfl hgd s x ho hs hx (by simp; omega) fun v' w' h2 h3 => h v' w' ⟨h1.bel.grown h3 h1.bel.size h1.own.base, h2⟩
theorem app_more {w0 w : World} {ops : Array Oper} {rest : List Oper} {o : Oper} {a : Act} {Q : Exit → Act → World → Prop} {v : Value} {l : List UInt8} (hk : KO w0 v l w) {A : Option Addr} {m : List UInt8} (hr : Bys w A m) {k : Nat} (hm : m.length = k) (hgd : o.guard = none) (s x : Operand)
    (ho : o.op = .call { callee := .builtin .append, args := #[s, x], argTypes := #[22, 22] }) (hs : a.eval s = v) {c : Nat} (hx : a.eval x = .slice A k c) (h63 : l.length + m.length ≤ 1048576)
    (h : ∀ v' w', KO w0 v' (l ++ m) w' → wpList Try.prog ops Q rest (a.put o.dst v') w') : wpList Try.prog ops Q (o :: rest) a w :=
  app_bys hk.own hk.bel.size hr hm hgd s x ho hs hx h63 fun v' w' h2 h3 => h v' w' ⟨hk.bel.grown h3 hk.bel.size hk.own.base, h2⟩
theorem app_text {w0 w : World} {ops : Array Oper} {rest : List Oper} {o : Oper} {a : Act} {Q : Exit → Act → World → Prop} {v : Value} {l : List UInt8} (hk : KO w0 v l w) (s : ByteArray) (hgd : o.guard = none) (y x : Operand)
    (ho : o.op = .call { callee := .builtin .append, args := #[y, x], argTypes := #[22, 9] }) (hs : a.eval y = v) (hx : a.eval x = .string s) (h63 : l.length + s.size ≤ 1048576)
    (h : ∀ v' w', KO w0 v' (l ++ s.data.toList) w' → wpList Try.prog ops Q rest (a.put o.dst v') w') : wpList Try.prog ops Q (o :: rest) a w :=
  app_str hk.own hk.bel.size s hgd y x ho hs hx h63 fun v' w' h2 h3 => h v' w' ⟨hk.bel.grown h3 hk.bel.size hk.own.base, h2⟩
/-- The contract's end: a slice that holds the bytes. -/
theorem KO.out {w0 w : World} {v : Value} {l : List UInt8} (h : KO w0 v l w) : ∃ A c, (Ending.returned v = .returned (.slice A l.length c) ∧ l.length ≤ c) ∧ KO w0 (.slice A l.length c) l w := by
  obtain ⟨A, c, hv, hc⟩ := h.own.slice
  subst hv
  exact ⟨A, c, ⟨rfl, hc⟩, h⟩
theorem small_len {p : List UInt8} {x F : Nat} (h : p ++ enc x = enc F) (hF : F < 4398046511104) : p.length ≤ 6 := by
  have := enc_six hF
  rw [← h, List.length_append] at this; omega
theorem coded_any (n : Int) (w : World) :
    Calls Try.prog 19 #[.int .i64 n] w fun e w' => ∃ A c, (e = .returned (.slice A (enc (fold n)).length c) ∧ (enc (fold n)).length ≤ c) ∧ KO w (.slice A (enc (fold n)).length c) (enc (fold n)) w' := by
  have hf := folded_any n
  have hF := fold_lt n
  generalize fold n = F at hf hF ⊢
  have HK := Lib.hid (KO.start w)
  go_enter Try.func19, Try.ntmps19
  go_wp2_with (first
    | (go_at_call 26; (with_reducible refine (hf _).mono ?_); rintro e u ⟨rfl, rfl⟩))
  go_loopw [3, 4] (fun v i wr => ∃ (p : List UInt8) (x : Nat), x < 4398046511104 ∧ i = .int .i64 x ∧ p ++ enc x = enc F ∧ KO w v p wr) (fun _ i _ => (intOf i).toNat)
  case atStart => exact ⟨[], F, hF, rfl, rfl, HK.out⟩
  case round =>
    obtain ⟨p, x, hx, rfl, hp, hk⟩ := hrel
    clear HK
    have HK := Lib.hid hk; clear hk
    have HL := Lib.hid (small_len hp hF)
    have HP := Lib.hid hp; clear hp
    by_cases h1 : x < 128
    · have h1' : ¬ (128 : Int) ≤ (x : Int) := by omega
      have e1 : IntKind.u8.wrap (x : Int) = (x : Int) := by rw [IntKind.wrap_u8]; omega
      have HE := Lib.hid (show (x : Int) = ((UInt8.ofNat x).toNat : Int) by rw [of_small (by omega)])
      go_wp2_with (first
        | (refine app_one HK.out (UInt8.ofNat x) HE.out rfl _ _ rfl rfl rfl (by have := HL.out; omega) ?_; intro v' u hk; clear HK; have HK := Lib.hid hk; clear hk))
      go_ret
      have hk := HK.out
      rw [← enc_lt h1, HP.out] at hk
      exact hk.out
    · have h1' : (128 : Int) ≤ (x : Int) := by omega
      have e1 : (x : Int).tmod 128 = ((x % 128 : Nat) : Int) := by rw [Int.tmod_eq_emod_of_nonneg (by omega)]; omega
      have e2 : (x : Int).tdiv 128 = ((x / 128 : Nat) : Int) := by rw [Int.tdiv_eq_ediv_of_nonneg (by omega)]; omega
      have hq : x % 128 < 128 := by omega
      have HN := Lib.hid (enc_ge h1)
      have HQ := Lib.hid (show x / 128 < 4398046511104 ∧ x / 128 < x by omega)
      have hr : x / 128 < 4398046511104 := by omega
      have HE := Lib.hid (show ((x % 128 : Nat) : Int) + 128 = ((UInt8.ofNat (x % 128 + 128)).toNat : Int) by rw [of_small (by omega)]; omega)
      generalize x % 128 = q at *
      generalize x / 128 = r at *
      have e3 : IntKind.u8.wrap ((q : Int) + 128) = (q : Int) + 128 := by rw [IntKind.wrap_u8]; omega
      go_wp2_with (first
        | (refine app_one HK.out (UInt8.ofNat (q + 128)) HE.out rfl _ _ rfl rfl rfl (by have := HL.out; omega) ?_; intro v' u hk; clear HK; have HK := Lib.hid hk; clear hk))
      go_roundw
      case rel => exact ⟨p ++ [UInt8.ofNat (q + 128)], r, HQ.out.1, by go_num, by rw [← HP.out, HN.out]; simp, HK.out⟩
      case measure => have := HQ.out; simp [intOf]; omega
end Go.Proofs.Ytphoaklbjljfnaa
