/- Contract of Open, where the tail is torn. -/
import Derived.Test.YtnbhgnkkedainaaDoorWd
namespace Go.Proofs.YtnbhgnkkedainaaDoor
open Go.ChangeShapes Go.WideShapes Go.ChangeAt Go.RowKit

theorem run_build_log (rd : Nat) (A : Option Addr) (n c : Nat) (W : World) : (Instr.build 63 #[(0, .pointer (some ⟨rd, 0, none⟩)), (1, .slice A n c)]).run Tryd.prog W = .ok (.agg #[.pointer (some ⟨rd, 0, none⟩), .slice A n c]) W := by
  simp [Instr.build, go_sem]
/-- The records of a log that is made. -/
structure Rs (u : World) (v : Value) (L : List BPart) : Prop where
  own : u.ownsRow 0 34 1 v L.length (prts L)
  all : ∀ x ∈ L, Own u 0 (prt x) x.2.2
def Th.rs (v : Value) (L : List BPart) : Th :=
  ⟨fun k => v.ownBlock = some k ∨ ∃ x ∈ L, (prt x).ownBlock = some k, fun u => Rs u v L,
   fun h hb => ⟨row_stay h.own fun k hk => hb k (.inl hk), fun x hx => (h.all x hx).else fun k hk => hb k (.inr ⟨x, hx, hk⟩)⟩,
   fun h hk => by
    rcases hk with hk | ⟨x, hx, hk⟩
    · exact (row_lt h.own hk).1
    · exact (h.all x hx).lt hk⟩
theorem KL.rs {w0 u : World} {v : Value} {L : List BPart} (h : KL w0 v L u) : Rs u v L :=
  ⟨row_base h.own fun _ _ => Nat.zero_le _, fun x hx => (h.all x hx).mono (Nat.zero_le _)⟩
section
variable {w u u' : World} {F : Nat → Prop} {own ro : List Th}
theorem Kg.records (h : Kg w F own ro u) {v : Value} {L : List BPart} (hk : KL u v L u') : Kg w F (Th.rs v L :: own) ro u' :=
  h.add hk.bel hk.rs (by
    rintro k (hk' | ⟨x, hx, hk'⟩)
    · exact (row_lt hk.own hk').2
    · exact (hk.all x hx).base k hk')
/-- They became a log's. -/
theorem Kg.log {v : Value} {L : List BPart} (h : Kg w F (Th.rs v L :: own) ro u) (rd : Nat) : Kg w F (Th.lo u.heap.size rd v L :: own) ro (u.alloc (.cells #[.pointer (some ⟨rd, 0, none⟩), v] 63)) := by
  have hb := below_new u (.cells #[.pointer (some ⟨rd, 0, none⟩), v] 63)
  have hc : Cel (u.alloc (.cells #[.pointer (some ⟨rd, 0, none⟩), v] 63)) u.heap.size 63 [.pointer (some ⟨rd, 0, none⟩), v] := Cel.new u _ _
  have hrs : Rs u v L := h.get 0 rfl
  have h1 := (Th.rs v L).stay hrs fun k hk => hb.block k ((Th.rs v L).lt hrs hk)
  have h2 := h.move 0 (x := Th.rs v L) (x' := Th.lo u.heap.size rd v L) rfl (Mf.of hb) ⟨hc, h1.own, h1.all⟩ (by
    rintro k (hk | hk)
    · exact .inr (Nat.le_of_eq hk.symm)
    · exact .inl hk)
  simpa only [List.set_cons_zero] using h2
theorem box_log {ops : Array Oper} {rest : List Oper} {o : Oper} {a : Act} {Q : Exit → Act → World → Prop} {v : Value} {L : List BPart} (h : Kg w F (Th.rs v L :: own) ro u) {rd : Nat} (hgd : o.guard = none) (x : Operand) (ho : o.op = .box 63 x) (hx : a.eval x = .agg #[.pointer (some ⟨rd, 0, none⟩), v])
    (hQ : ∀ r u', Kg w F (Th.lo r rd v L :: own) ro u' → wpList Tryd.prog ops Q rest (a.put o.dst (.pointer (some ⟨r, 0, none⟩))) u') : wpList Tryd.prog ops Q (o :: rest) a u :=
  wpList_plain hgd fun K hK => by
    have e : (Instr.box 63 (.agg #[.pointer (some ⟨rd, 0, none⟩), v])).run Tryd.prog u = .ok (.pointer (some ⟨u.heap.size, 0, none⟩)) (u.alloc (.cells #[.pointer (some ⟨rd, 0, none⟩), v] 63)) := by
      simp [Instr.box, newVar, newRow, newObj, Value.cells]
      rfl
    unfold Oper.wp execOp
    simp only [ho, hx, Sem.run_bind, Sem.run_pure, Result.andThen_ok, e]
    exact hK _ _ (hQ _ _ (h.log rd))
end
/-- What opening a log leaves: all whole frames' payloads, and these alone on the disk, all safe. -/
def Opens (w : World) (F : Nat → Prop) (r z : Nat) (M : List (List UInt8)) (e : Ending) (w' : World) : Prop :=
  ∃ rl v1 v' L, e = .returned (.tuple #[.pointer (some ⟨rl, 0, none⟩), .int .i64 0]) ∧ txt L = M ∧ Kg w F [Th.lo rl r v1 L, Th.dk r z ((fls M).length : Nat) v' (fls M)] [] w'
set_option maxRecDepth 100000 in
theorem open_log (r z f : Nat) (v : Value) (d : List UInt8) (hm : d.length ≤ 1000000) (M : List (List UInt8)) (hM : scn d = M) (ht : tkE (d.drop (fls M).length) = 3) (w : World) (hw : Nib w) {F : Nat → Prop} (h : Kg w F [Th.dk r z f v d] [] w) :
    Calls Tryd.prog 12 #[.pointer (some ⟨r, 0, none⟩)] w (Opens w F r z M) := by
  have hle := scn_len d
  rw [hM] at hle
  obtain ⟨rr, hrr, _⟩ := scn_back d.length d (Nat.le_refl _)
  rw [hM] at hrr
  have htk : d.take (fls M).length = fls M := by
    conv => lhs; rw [hrr]
    rw [List.take_append_of_le_length (Nat.le_refl _), List.take_length]
  clear hrr
  unfold Opens
  obtain ⟨P, hP⟩ : ∃ P, fls M = P := ⟨_, rfl⟩
  obtain ⟨N, hN⟩ : ∃ N, (fls M).length = N := ⟨_, rfl⟩
  have HMN := Lib.hid hN
  rw [hN] at hle ht htk
  rw [hP] at htk
  rw [hN, hP]
  have HPN := Lib.hid (show P.length = N by rw [← hP, hN])
  obtain ⟨D, hD⟩ : ∃ D, d.length = D := ⟨_, rfl⟩
  have hby := bytes_any r z f v d w (h.dk 0 rfl) (by omega)
  unfold Makes at hby
  rw [hD] at hby hle hm
  have HL := Lib.hid hD
  have HM := Lib.hid hM
  have HLE := Lib.hid (show N ≤ d.length by rw [hD]; exact hle)
  have HLD := Lib.hid (show (d.drop N).length = D - N by rw [List.length_drop, hD])
  have HT := Lib.hid ht
  have HTK := Lib.hid htk
  have HW := Lib.hid hw
  have HKG := Lib.hid h
  have hbl := run_build_log r
  clear h hN hD hM hw hP ht htk
  go_enter Tryd.func12, Tryd.ntmps12
  go_wp2_with (first
    | (go_at_call 22; (with_reducible refine hby.mono ?_); rintro e u ⟨A1, c1, ⟨rfl, hc1⟩, hk⟩; have hnb := HW.out.below hk.bel; have hkg := HKG.out.makes hk; clear hby HW HKG hk; have HW := Lib.hid hnb; have HKG := Lib.hid hkg; have HC := Lib.hid hc1; clear hc1 hnb hkg)
    | (go_at_call 27; (with_reducible refine (scan_any A1 D c1 d HL.out HC.out hm _ (HKG.out.bys 0 rfl) HW.out).mono ?_); rintro e u hs; obtain ⟨A2, c2, L, ⟨rfl, _⟩, htx, hkl⟩ := hs.at HM.out HMN.out; have hnb := HW.out.below hkl.bel; have hkg := HKG.out.records hkl; clear HKG HW hs hkl; have HW := Lib.hid hnb; have HKG := Lib.hid hkg; have HTX := Lib.hid htx; clear hkg hnb htx)
    | (refine low_slice hle HC.out rfl _ _ rfl rfl rfl ?_)
    | (go_at_call 28; (with_reducible refine (take_any _ _ _ (d.drop N) HLD.out (by have := HC.out; omega) (by omega) _ ((HKG.out.bys 0 rfl).low (by have := HL.out; have := HC.out; omega)) HW.out).mono ?_); intro e u hs; obtain ⟨A3, c3, rfl, hb⟩ := hs.no HT.out (by decide); have hkg := HKG.out.call hb; clear HKG HW hs hb; have HKG := Lib.hid hkg; clear hkg)
    | (go_at_call 29; (with_reducible refine (cut_any r z f v d N HLE.out _ (HKG.out.dk 1 rfl)).mono ?_); rintro e u ⟨rfl, v1, hd, hmv⟩; rw [HTK.out] at hd; have hkg := HKG.out.disk 1 rfl hmv hd; simp only [List.set_cons_zero, List.set_cons_succ] at hkg; clear hd hmv HKG; have HKG := Lib.hid hkg; clear hkg)
    | (go_at_call 30; (with_reducible refine (sync_any _ _ _ _ _ N HPN.out _ (HKG.out.dk 1 rfl)).mono ?_); rintro e u ⟨rfl, hd, hmv⟩; have hkg := HKG.out.disk 1 rfl hmv hd; simp only [List.set_cons_zero, List.set_cons_succ] at hkg; clear hd hmv HKG; have HKG := Lib.hid hkg; clear hkg)
    | ((with_reducible refine box_log HKG.out rfl _ rfl rfl ?_); intro rl u hkg; clear HKG; have HKG := Lib.hid hkg; clear hkg))
  go_ret2
  exact ⟨_, _, _, L, rfl, HTX.out, HKG.out.sub (by simp)⟩
end Go.Proofs.YtnbhgnkkedainaaDoor
