/- Fields in a row: where one is (plan.Find, the document's at), and whether they may be (plan.Fields, the document's Fields). -/
import Derived.Test.YtgblnlpfgdbnnaaGreatZ24
namespace Go.Proofs.YtgblnlpfgdbnnaaGreat
set_option maxRecDepth 100000
open Go.ChangeShapes Go.WideShapes Go.ChangeAt Go.RowKit

def rightP (p : Pf) : Bool := rightF (p.fd none 0) p.hs
theorem right_q (p : Pf) (hp : p.full) (hN : p.nm.size ≤ 1000) (A : Option Addr) (c : Nat) (r : Bool) (hr : rightP p = r) (w : World) (hd : Row w A p.hs.length p.hs) :
    Calls Tryz.prog 32 #[.agg (p.fd A c).cells.toArray] w fun e w' => e = .returned (.bool r) ∧ Below w.heap.size w w' := right_any7 (p.fd A c) hp hN p.hs w hd r hr
abbrev pfs (qs : List Q) : List Pf := qs.map Prod.fst
theorem pfs_at {qs : List Q} {i : Nat} {x : Q} (h : qs[i]? = some x) : (pfs qs)[i]? = some x.1 := by simp [h]
theorem pfs_len (qs : List Q) : (pfs qs).length = qs.length := by simp
/-! ### Where a field is. -/
def isP (ps : List Pf) (s : ByteArray) : Bool := ps.any fun p => eqS p.nm s
def findP (ps : List Pf) (s : ByteArray) : Nat := ps.findIdx fun p => eqS p.nm s
theorem find_hit {ps : List Pf} {s : ByteArray} {m : Nat} {p : Pf} (hb : ∀ j q, j < m → ps[j]? = some q → eqS q.nm s = false) (hm : ps[m]? = some p) (hp : eqS p.nm s = true) : isP ps s = true ∧ findP ps s = m := by
  obtain ⟨hl, he⟩ := List.getElem?_eq_some_iff.1 hm
  refine ⟨?_, ?_⟩
  · rw [isP, List.any_eq_true]
    exact ⟨p, List.mem_of_getElem? hm, hp⟩
  · rw [findP, List.findIdx_eq hl]
    refine ⟨by rw [he]; exact hp, fun j hj => ?_⟩
    exact hb j _ hj (List.getElem?_eq_getElem (by omega))
theorem find_none {ps : List Pf} {s : ByteArray} (hb : ∀ j q, j < ps.length → ps[j]? = some q → eqS q.nm s = false) : isP ps s = false := by
  rw [isP, List.any_eq_false]
  intro p hp
  obtain ⟨j, hj⟩ := List.mem_iff_getElem?.1 hp
  rw [hb j p (List.getElem?_eq_some_iff.1 hj).1 hj]
  simp
/-- A text in a row of fields. -/
theorem FR.name {w : World} {b off n m : Nat} {qs : List Q} (h : FR w (some ⟨b, off, none⟩) n qs) {x : Q} (hx : qs[m]? = some x) (hn : n ≠ 0) : w.rangeAt b (off + m * 587) (x.1.fd x.2.1 x.2.2).cells := by
  obtain ⟨b', off', e, hr⟩ := h.base hn
  injection e with e; injection e with e1 e2
  subst e1; subst e2
  exact hr m x hx
theorem rng0 {w : World} {b o : Nat} {p : Pf} {A : Option Addr} {c : Nat} (h : w.rangeAt b o (p.fd A c).cells) : w.cell? ⟨b, o, none⟩ = some (.string p.nm) := h 0 _ Pf.cn
theorem find_any (A : Option Addr) (n c : Nat) (qs : List Q) (s : ByteArray) (hn : n ≤ 1000) (k : Int) (b : Bool) (hk : (if isP (pfs qs) s then (findP (pfs qs) s : Int) else 0) = k) (hb : isP (pfs qs) s = b) (w : World) (hd : FR w A n qs) :
    Calls Tryz.prog 12 #[.slice A n c, .string s] w fun e w' => e = .returned (.tuple #[.int .i64 k, .bool b]) ∧ Below w.heap.size w w' := by
  have HD := Lib.hid hd; clear hd
  have HRK := Lib.hid hk; have HRB := Lib.hid hb; clear hk hb
  go_enter Tryz.func12, Tryz.ntmps12
  go_wp2
  go_loop [9] (fun i => ∃ m : Nat, m ≤ n ∧ i = .int .i64 m ∧ ∀ j q, j < m → (pfs qs)[j]? = some q → eqS q.nm s = false) (fun i => n - (intOf i).toNat)
  case atStart => exact ⟨0, by omega, rfl, fun j q hj => by omega⟩
  case round =>
    obtain ⟨m, hm, rfl, hq⟩ := hrel
    have HQ := Lib.hid hq; clear hq
    by_cases hlt : m < n
    · obtain ⟨x, hx⟩ := HD.out.get hlt
      obtain ⟨b, off, rfl, hr⟩ := HD.out.base (by omega)
      have HX := Lib.hid (pfs_at hx)
      have HR := Lib.hid (rng0 (hr m x hx))
      clear hr hx
      have i1 : (0 : Int) ≤ (m : Int) := by omega
      have i2 : (m : Int) < (n : Int) := by omega
      cases he : (x.1.nm.toList == s.toList) with
      | true =>
        have HF := Lib.hid (find_hit HQ.out HX.out he)
        go_wp2_with (first
          | (with_reducible refine load_kt ckS _ rfl HR.out rfl rfl ?_))
        go_ret2
        exact ⟨by rw [← HRK.out, ← HRB.out, HF.out.1, HF.out.2]; rfl, Below.refl _ _⟩
      | false =>
        have HE := Lib.hid he
        go_wp2_with (first
          | (with_reducible refine load_kt ckS _ rfl HR.out rfl rfl ?_))
        go_round
        case rel => exact ⟨m + 1, by omega, by go_num, fun j q hj hq => by
          rcases Nat.lt_or_ge j m with h3 | h3
          · exact HQ.out j q h3 hq
          · obtain rfl : m = j := by omega
            rw [HX.out] at hq
            injection hq with hq
            rw [← hq]; exact HE.out⟩
        case measure => simp [intOf]; omega
    · obtain rfl : m = n := by omega
      have HF := Lib.hid (find_none (ps := pfs qs) (s := s) fun j q hj => HQ.out j q (by rw [pfs_len, HD.out.1] at hj; exact hj))
      go_wp2
      go_ret2
      exact ⟨by rw [← HRK.out, ← HRB.out, HF.out]; rfl, Below.refl _ _⟩
/-! ### By name. -/
section
variable {ops : Array Oper} {rest : List Oper} {o : Oper} {a : Act} {w u : World} {l : List (Nat × TypeId × List Value)} {Q' : Exit → Act → World → Prop}
theorem box_fd (hk : KeepF w l [] u ∧ w.drawn ≤ u.drawn) {ty : TypeId} (hgd : o.guard = none) (x : Operand) (ho : o.op = .box ty x) {cs : List Value} (hx : a.eval x = .agg cs.toArray)
    (h : ∀ b u', KeepF w ((b, ty, cs) :: l) [] u' ∧ w.drawn ≤ u'.drawn → wpList Tryz.prog ops Q' rest (a.put o.dst (.pointer (some ⟨b, 0, none⟩))) u') : wpList Tryz.prog ops Q' (o :: rest) a u :=
  wpList_plain hgd fun K hK => by
    have e : (Instr.box ty (.agg cs.toArray)).run Tryz.prog u = .ok (.pointer (some ⟨u.heap.size, 0, none⟩)) (u.alloc (.cells cs.toArray ty)) := by
      simp [Instr.box, newVar, newRow, newObj, Value.cells]
      rfl
    unfold Oper.wp execOp
    simp only [ho, hx, Sem.run_bind, Sem.run_pure, Result.andThen_ok, e]
    exact hK _ _ (h _ _ ⟨hk.1.new rfl, hk.2⟩)
end
theorem byname_any (p q : Pf) (A B : Option Addr) (c d : Nat) (w : World) :
    Calls Tryz.prog 33 #[.agg (p.fd A c).cells.toArray, .agg (q.fd B d).cells.toArray] w fun e w' => e = .returned (.int .i64 (cmpS p.nm q.nm)) ∧ Below w.heap.size w w' ∧ w.drawn ≤ w'.drawn := by
  have HK := Lib.hid (show KeepF w [] [] w ∧ w.drawn ≤ w.drawn from ⟨KeepF.start (by simp), Nat.le_refl _⟩)
  go_enter Tryz.func33, Tryz.ntmps33
  go_wp2_with (first
    | ((with_reducible refine box_fd (cs := (p.fd A c).cells) HK.out rfl _ rfl rfl ?_); intro b1 u hk; clear HK; have HK := Lib.hid hk; clear hk)
    | ((with_reducible refine box_fd (cs := (q.fd B d).cells) HK.out rfl _ rfl rfl ?_); intro b2 u hk; clear HK; have HK := Lib.hid hk; clear hk)
    | (with_reducible refine load_f1 HK.out.1 1 cbS _ rfl rfl rfl rfl Pf.cn ?_)
    | (with_reducible refine load_f1 HK.out.1 0 cbS _ rfl rfl rfl rfl Pf.cn ?_)
    | (go_at_call 68; (with_reducible refine (cmps_any _ _ _).mono ?_); rintro e u ⟨rfl, rfl⟩))
  go_ret
  exact ⟨rfl, HK.out.1.bel, HK.out.2⟩
/-! ### Whether fields may be. -/
def fokAt (ps : List Pf) (i : Nat) : Bool := rightP (ps.getD i zP) && (decide (i = 0) || ltS (ps.getD (i - 1) zP).nm (ps.getD i zP).nm)
def fieldsB (ps : List Pf) : Bool := decide (ps.length ≤ 4) && (List.range ps.length).all (fokAt ps)
theorem fields_no {ps : List Pf} {m : Nat} (hm : m < ps.length) (h : fokAt ps m = false) : fieldsB ps = false := by
  rw [fieldsB, Bool.and_eq_false_iff, List.all_eq_false]
  exact .inr ⟨m, List.mem_range.2 hm, by rw [h]; simp⟩
theorem fields_all {ps : List Pf} (h : ∀ j, j < ps.length → fokAt ps j = true) : fieldsB ps = decide (ps.length ≤ 4) := by
  rw [fieldsB, show (List.range ps.length).all (fokAt ps) = true from List.all_eq_true.2 fun j hj => h j (List.mem_range.1 hj), Bool.and_true]
theorem pfs_getD {qs : List Q} {i : Nat} {x : Q} (h : qs[i]? = some x) : (pfs qs).getD i zP = x.1 := by
  rw [List.getD, pfs_at h]; rfl
theorem ok_0 {qs : List Q} {x : Q} (h : qs[0]? = some x) (r : Bool) (hr : rightP x.1 = r) : fokAt (pfs qs) 0 = r := by
  unfold fokAt
  rw [pfs_getD h, hr]; simp
theorem ok_s {qs : List Q} {k : Nat} {x y : Q} (h : qs[k + 1]? = some x) (h' : qs[k]? = some y) (r : Bool) (hr : rightP x.1 = true) (hl : ltS y.1.nm x.1.nm = r) : fokAt (pfs qs) (k + 1) = r := by
  unfold fokAt
  rw [Nat.add_sub_cancel, pfs_getD h, pfs_getD h', hr, hl]; simp
theorem ok_n {qs : List Q} {i : Nat} {x : Q} (h : qs[i]? = some x) (hr : rightP x.1 = false) : fokAt (pfs qs) i = false := by
  unfold fokAt
  rw [pfs_getD h, hr]; rfl
def Fits1000 (qs : List Q) : Prop := ∀ x ∈ qs, x.1.nm.size ≤ 1000
theorem Fits1000.at {qs : List Q} (h : Fits1000 qs) {i : Nat} {x : Q} (hx : qs[i]? = some x) : x.1.nm.size ≤ 1000 := h x (List.mem_of_getElem? hx)
theorem wrap_pred (k : Nat) (h : k ≤ 1000) : IntKind.i64.wrap (((k + 1 : Nat) : Int) - 1) = (k : Int) := by
  simp [IntKind.wrap, IntKind.bits, IntKind.signed]; omega
set_option maxHeartbeats 2000000 in
theorem fields_any (A : Option Addr) (n c : Nat) (qs : List Q) (hn : n ≤ 1000) (hN : Fits1000 qs) (w : World) (hd : FR w A n qs) :
    Calls Tryz.prog 14 #[.slice A n c] w fun e w' => e = .returned (.bool (fieldsB (pfs qs))) ∧ Below w.heap.size w w' := by
  have HD := Lib.hid hd
  have HPL := Lib.hid (show (pfs qs).length = n by rw [pfs_len]; exact hd.1)
  clear hd
  have HK := Lib.hid (Kg.start w)
  by_cases h4 : n ≤ 4
  · have d4 : decide ((4 : Int) < (n : Int)) = false := by simp; omega
    go_enter Tryz.func14, Tryz.ntmps14
    go_wp2
    go_loopw [10] (fun i wr => ∃ m : Nat, m ≤ n ∧ i = .int .i64 m ∧ (∀ j, j < m → fokAt (pfs qs) j = true) ∧ Kg w (fun _ => False) [] [] wr) (fun i _ => n - (intOf i).toNat)
    case atStart => exact ⟨0, by omega, rfl, fun j hj => by omega, HK.out⟩
    case round =>
      obtain ⟨m, hm, rfl, hq, hk⟩ := hrel
      have HQ := Lib.hid hq; clear hq
      clear HK; have HK := Lib.hid hk; clear hk
      by_cases hlt : m < n
      · obtain ⟨x, hx⟩ := HD.out.get hlt
        obtain ⟨b, off, rfl, hr⟩ := HD.out.base (by omega)
        have HM := Lib.hid hlt
        have HF := Lib.hid (HD.out.full hx)
        have HR := Lib.hid (hr m x hx)
        have HRW := Lib.hid (HD.out.row hx)
        have hNx := hN.at hx
        have i1 : (0 : Int) ≤ (m : Int) := by omega
        have i2 : (m : Int) < (n : Int) := by omega
        cases hrx : rightP x.1 with
        | false =>
          have hrt := fun w h => right_q x.1 (HD.out.full hx) hNx x.2.1 x.2.2 false hrx w h
          have HO := Lib.hid (fields_no (by rw [HPL.out]; exact hlt) (ok_n hx hrx))
          clear hr hNx hrx hN
          go_wp2_with (first
            | (with_reducible refine load_kg Tryz.underlying43 rfl (Pf.infoF HF.out) _ rfl (rng_below HR.out HK.out.mf.bel) rfl rfl ?_)
            | ((with_reducible refine alloc_k HK.out f_zeroP rfl rfl ?_); intro b4 u hk; clear HK; have HK := Lib.hid hk; clear hk)
            | ((with_reducible refine store_kr HK.out 0 (Pf.infoF HF.out) (Fd.one _) rfl rfl _ _ rfl rfl rfl rfl (Fd.leP zP_full HF.out) (Fd.setAllP zP_full HF.out) ?_); intro u hk; simp only [List.set_cons_zero] at hk; clear HK; have HK := Lib.hid hk; clear hk))
          refine Draws.start (S := fun u => Kg w (fun _ => False) [Th.cel b4 43 (x.1.fd x.2.1 x.2.2).cells] [] u) (n := 17) 17 rfl (by kernel_rfl) ?_
          have HS := Lib.hid (show (fun u => Kg w (fun _ => False) [Th.cel b4 43 (x.1.fd x.2.1 x.2.2).cells] [] u) (World.drew _) from HK.out.drew)
          refine Draws.take 0 HS.out rfl (by kernel_rfl) (fun _ _ _ h => h) (yield_kr Tryz.underlying43 rfl (Pf.infoF HF.out) (fun _ h => (h.celAt 0 rfl).range Pf.all) _ rfl rfl rfl) ?_
          (try simp only [Act.put, lsA, lsB, lsC])
          refine Draws.does 1 rfl (by kernel_rfl) rfl (fun K' hK => ?_)
          go_simp
          go_at_call 32
          refine (hrt _ (HRW.out.below HS.out.mf.bel (Nat.le_refl _))).mono ?_
          rintro e u ⟨rfl, hb⟩
          (try dsimp only)
          have hk := HS.out.call hb; clear hb
          clear HS; have HS := Lib.hid (show (fun u => Kg w (fun _ => False) [Th.cel b4 43 (x.1.fd x.2.1 x.2.2).cells] [] u) _ from hk); clear hk
          refine hK.out _ _ (fun _ => HS.out) ?_
          clear hK K'
          (try simp only [Act.put, lsA, lsB, lsC])
          refine Draws.take 2 (v := ?v1) HS.out rfl (by kernel_rfl) (fun _ _ _ h => h) (Or.inl ⟨rfl, ?h1⟩) ?r1
          case h1 => intro w' hw'; go_simp; (try with_reducible rfl)
          (try simp only [Act.put, lsA, lsB, lsC])
          refine Draws.take 3 (v := ?v2) HS.out rfl (by kernel_rfl) (fun _ _ _ h => h) (Or.inl ⟨rfl, ?h2⟩) ?r2
          case h2 => intro w' hw'; go_simp; (try with_reducible rfl)
          (try simp only [Act.put, lsA, lsB, lsC])
          refine Draws.take 4 HS.out rfl (by kernel_rfl) (fun _ _ _ h => h) (Or.inr ⟨rfl, rfl⟩) ?_
          (try simp only [Act.put, lsA, lsB, lsC])
          refine Draws.take 5 HS.out rfl (by kernel_rfl) (fun _ _ _ h => h) (Or.inr ⟨rfl, rfl⟩) ?_
          (try simp only [Act.put, lsA, lsB, lsC])
          refine Draws.take 6 HS.out rfl (by kernel_rfl) (fun _ _ _ h => h) (Or.inr ⟨rfl, rfl⟩) ?_
          (try simp only [Act.put, lsA, lsB, lsC])
          refine Draws.take 7 HS.out rfl (by kernel_rfl) (fun _ _ _ h => h) (Or.inr ⟨rfl, rfl⟩) ?_
          (try simp only [Act.put, lsA, lsB, lsC])
          refine Draws.take 8 HS.out rfl (by kernel_rfl) (fun _ _ _ h => h) (Or.inr ⟨rfl, rfl⟩) ?_
          (try simp only [Act.put, lsA, lsB, lsC])
          refine Draws.take 9 HS.out rfl (by kernel_rfl) (fun _ _ _ h => h) (Or.inr ⟨rfl, rfl⟩) ?_
          (try simp only [Act.put, lsA, lsB, lsC])
          refine Draws.take 10 HS.out rfl (by kernel_rfl) (fun _ _ _ h => h) (Or.inr ⟨rfl, rfl⟩) ?_
          (try simp only [Act.put, lsA, lsB, lsC])
          refine Draws.take 11 HS.out rfl (by kernel_rfl) (fun _ _ _ h => h) (Or.inr ⟨rfl, rfl⟩) ?_
          (try simp only [Act.put, lsA, lsB, lsC])
          refine Draws.take 12 HS.out rfl (by kernel_rfl) (fun _ _ _ h => h) (Or.inr ⟨rfl, rfl⟩) ?_
          (try simp only [Act.put, lsA, lsB, lsC])
          refine Draws.take 13 HS.out rfl (by kernel_rfl) (fun _ _ _ h => h) (Or.inr ⟨rfl, rfl⟩) ?_
          (try simp only [Act.put, lsA, lsB, lsC])
          refine Draws.take 14 HS.out rfl (by kernel_rfl) (fun _ _ _ h => h) (Or.inr ⟨rfl, rfl⟩) ?_
          (try simp only [Act.put, lsA, lsB, lsC])
          refine Draws.take 15 HS.out rfl (by kernel_rfl) (fun _ _ _ h => h) (Or.inr ⟨rfl, rfl⟩) ?_
          (try simp only [Act.put, lsA, lsB, lsC])
          refine Draws.take 16 (v := ?v3) HS.out rfl (by kernel_rfl) (fun _ _ _ h => h) (Or.inl ⟨rfl, ?h3⟩) ?r3
          case h3 => intro w' hw'; go_simp; (try with_reducible rfl)
          (try simp only [Act.put, lsA, lsB, lsC])
          refine Draws.done (by kernel_rfl) ?_
          clear HK; have HK := Lib.hid (show Kg w (fun _ => False) [Th.cel b4 43 (x.1.fd x.2.1 x.2.2).cells] [] _ from HS.out)
          go_wp2
          go_ret
          exact ⟨by rw [HO.out]; rfl, HK.out.mf.bel⟩
        | true =>
          have hrt := fun w h => right_q x.1 (HD.out.full hx) hNx x.2.1 x.2.2 true hrx w h
          by_cases h0 : m = 0
          · have HO := Lib.hid (show fokAt (pfs qs) m = true by subst h0; exact ok_0 hx true hrx)
            have HI := Lib.hid (show decide ((0 : Int) < (m : Int)) = false by rw [decide_eq_false_iff_not]; omega)
            clear hr hNx hrx hN h0
            go_wp2_with (first
              | (with_reducible refine load_kg Tryz.underlying43 rfl (Pf.infoF HF.out) _ rfl (rng_below HR.out HK.out.mf.bel) rfl rfl ?_)
              | ((with_reducible refine alloc_k HK.out f_zeroP rfl rfl ?_); intro b4 u hk; clear HK; have HK := Lib.hid hk; clear hk)
              | ((with_reducible refine store_kr HK.out 0 (Pf.infoF HF.out) (Fd.one _) rfl rfl _ _ rfl rfl rfl rfl (Fd.leP zP_full HF.out) (Fd.setAllP zP_full HF.out) ?_); intro u hk; simp only [List.set_cons_zero] at hk; clear HK; have HK := Lib.hid hk; clear hk))
            refine Draws.start (S := fun u => Kg w (fun _ => False) [Th.cel b4 43 (x.1.fd x.2.1 x.2.2).cells] [] u) (n := 17) 17 rfl (by kernel_rfl) ?_
            have HS := Lib.hid (show (fun u => Kg w (fun _ => False) [Th.cel b4 43 (x.1.fd x.2.1 x.2.2).cells] [] u) (World.drew _) from HK.out.drew)
            refine Draws.take 0 HS.out rfl (by kernel_rfl) (fun _ _ _ h => h) (yield_kr Tryz.underlying43 rfl (Pf.infoF HF.out) (fun _ h => (h.celAt 0 rfl).range Pf.all) _ rfl rfl rfl) ?_
            (try simp only [Act.put, lsA, lsB, lsC])
            refine Draws.does 1 rfl (by kernel_rfl) rfl (fun K' hK => ?_)
            go_simp
            go_at_call 32
            refine (hrt _ (HRW.out.below HS.out.mf.bel (Nat.le_refl _))).mono ?_
            rintro e u ⟨rfl, hb⟩
            (try dsimp only)
            have hk := HS.out.call hb; clear hb
            clear HS; have HS := Lib.hid (show (fun u => Kg w (fun _ => False) [Th.cel b4 43 (x.1.fd x.2.1 x.2.2).cells] [] u) _ from hk); clear hk
            refine hK.out _ _ (fun _ => HS.out) ?_
            clear hK K'
            (try simp only [Act.put, lsA, lsB, lsC])
            refine Draws.take 2 (v := ?v4) HS.out rfl (by kernel_rfl) (fun _ _ _ h => h) (Or.inl ⟨rfl, ?h4⟩) ?r4
            case h4 => intro w' hw'; go_simp; (try with_reducible rfl)
            (try simp only [Act.put, lsA, lsB, lsC])
            refine Draws.take 3 (v := ?v5) HS.out rfl (by kernel_rfl) (fun _ _ _ h => h) (Or.inl ⟨rfl, ?h5⟩) ?r5
            case h5 => intro w' hw'; go_simp; (try with_reducible rfl)
            (try simp only [Act.put, lsA, lsB, lsC])
            refine Draws.take 4 (v := ?v6) HS.out rfl (by kernel_rfl) (fun _ _ _ h => h) (Or.inl ⟨rfl, ?h6⟩) ?r6
            case h6 => intro w' hw'; go_simp; (try with_reducible rfl)
            (try simp only [Act.put, lsA, lsB, lsC])
            refine Draws.take 5 HS.out rfl (by kernel_rfl) (fun _ _ _ h => h) (yield_gtr HI.out _ _ _ rfl rfl rfl rfl) ?_
            (try simp only [Act.put, lsA, lsB, lsC])
            refine Draws.take 6 (v := ?v7) HS.out rfl (by kernel_rfl) (fun _ _ _ h => h) (Or.inl ⟨rfl, ?h7⟩) ?r7
            case h7 => intro w' hw'; go_simp; (try with_reducible rfl)
            (try simp only [Act.put, lsA, lsB, lsC])
            refine Draws.take 7 HS.out rfl (by kernel_rfl) (fun _ _ _ h => h) (Or.inr ⟨rfl, rfl⟩) ?_
            (try simp only [Act.put, lsA, lsB, lsC])
            refine Draws.take 8 HS.out rfl (by kernel_rfl) (fun _ _ _ h => h) (Or.inr ⟨rfl, rfl⟩) ?_
            (try simp only [Act.put, lsA, lsB, lsC])
            refine Draws.take 9 HS.out rfl (by kernel_rfl) (fun _ _ _ h => h) (Or.inr ⟨rfl, rfl⟩) ?_
            (try simp only [Act.put, lsA, lsB, lsC])
            refine Draws.take 10 HS.out rfl (by kernel_rfl) (fun _ _ _ h => h) (Or.inr ⟨rfl, rfl⟩) ?_
            (try simp only [Act.put, lsA, lsB, lsC])
            refine Draws.take 11 HS.out rfl (by kernel_rfl) (fun _ _ _ h => h) (Or.inr ⟨rfl, rfl⟩) ?_
            (try simp only [Act.put, lsA, lsB, lsC])
            refine Draws.take 12 HS.out rfl (by kernel_rfl) (fun _ _ _ h => h) (Or.inr ⟨rfl, rfl⟩) ?_
            (try simp only [Act.put, lsA, lsB, lsC])
            refine Draws.take 13 HS.out rfl (by kernel_rfl) (fun _ _ _ h => h) (Or.inr ⟨rfl, rfl⟩) ?_
            (try simp only [Act.put, lsA, lsB, lsC])
            refine Draws.take 14 HS.out rfl (by kernel_rfl) (fun _ _ _ h => h) (Or.inr ⟨rfl, rfl⟩) ?_
            (try simp only [Act.put, lsA, lsB, lsC])
            refine Draws.take 15 (v := ?v8) HS.out rfl (by kernel_rfl) (fun _ _ _ h => h) (Or.inl ⟨rfl, ?h8⟩) ?r8
            case h8 => intro w' hw'; go_simp; (try with_reducible rfl)
            (try simp only [Act.put, lsA, lsB, lsC])
            refine Draws.take 16 (v := ?v9) HS.out rfl (by kernel_rfl) (fun _ _ _ h => h) (Or.inl ⟨rfl, ?h9⟩) ?r9
            case h9 => intro w' hw'; go_simp; (try with_reducible rfl)
            (try simp only [Act.put, lsA, lsB, lsC])
            refine Draws.done (by kernel_rfl) ?_
            clear HK; have HK := Lib.hid (show Kg w (fun _ => False) [Th.cel b4 43 (x.1.fd x.2.1 x.2.2).cells] [] _ from HS.out)
            go_wp2
            go_roundw
            case rel => exact ⟨m + 1, by have := HM.out; omega, by go_num, fun j hj => by
              rcases Nat.lt_or_ge j m with h3 | h3
              · exact HQ.out j h3
              · rw [show j = m by omega]; exact HO.out, HK.out.tail⟩
            case measure => have := HM.out; simp [intOf]; omega
          · obtain ⟨k, hk1⟩ : ∃ k, m = k + 1 := ⟨m - 1, by omega⟩
            obtain ⟨y, hy⟩ := HD.out.get (show k < n by omega)
            have HG := Lib.hid (HD.out.full hy)
            have HY := Lib.hid (hr k y hy)
            have HI := Lib.hid (show decide ((0 : Int) < (m : Int)) = true by rw [decide_eq_true_eq]; omega)
            have HW := Lib.hid (show IntKind.i64.wrap ((m : Int) - 1) = (k : Int) by rw [hk1]; exact wrap_pred k (by omega))
            have j1 : (0 : Int) ≤ (k : Int) := by omega
            have j2 : (k : Int) < (n : Int) := by omega
            cases hl : ltS y.1.nm x.1.nm with
            | false =>
              have HO := Lib.hid (fields_no (by rw [HPL.out]; exact hlt) (show fokAt (pfs qs) m = false by subst hk1; exact ok_s hx hy false hrx hl))
              have HL := Lib.hid (show decide (0 ≤ cmpS y.1.nm x.1.nm) = true by rw [cmpS_ge, hl]; rfl)
              clear hr hNx hrx hN hl hy h0 hk1
              go_wp2_with (first
                | (with_reducible refine load_kg Tryz.underlying43 rfl (Pf.infoF HF.out) _ rfl (rng_below HR.out HK.out.mf.bel) rfl rfl ?_)
                | ((with_reducible refine alloc_k HK.out f_zeroP rfl rfl ?_); intro b4 u hk; clear HK; have HK := Lib.hid hk; clear hk)
                | ((with_reducible refine store_kr HK.out 0 (Pf.infoF HF.out) (Fd.one _) rfl rfl _ _ rfl rfl rfl rfl (Fd.leP zP_full HF.out) (Fd.setAllP zP_full HF.out) ?_); intro u hk; simp only [List.set_cons_zero] at hk; clear HK; have HK := Lib.hid hk; clear hk))
              refine Draws.start (S := fun u => Kg w (fun _ => False) [Th.cel b4 43 (x.1.fd x.2.1 x.2.2).cells] [] u) (n := 17) 17 rfl (by kernel_rfl) ?_
              have HS := Lib.hid (show (fun u => Kg w (fun _ => False) [Th.cel b4 43 (x.1.fd x.2.1 x.2.2).cells] [] u) (World.drew _) from HK.out.drew)
              refine Draws.take 0 HS.out rfl (by kernel_rfl) (fun _ _ _ h => h) (yield_kr Tryz.underlying43 rfl (Pf.infoF HF.out) (fun _ h => (h.celAt 0 rfl).range Pf.all) _ rfl rfl rfl) ?_
              (try simp only [Act.put, lsA, lsB, lsC])
              refine Draws.does 1 rfl (by kernel_rfl) rfl (fun K' hK => ?_)
              go_simp
              go_at_call 32
              refine (hrt _ (HRW.out.below HS.out.mf.bel (Nat.le_refl _))).mono ?_
              rintro e u ⟨rfl, hb⟩
              (try dsimp only)
              have hk := HS.out.call hb; clear hb
              clear HS; have HS := Lib.hid (show (fun u => Kg w (fun _ => False) [Th.cel b4 43 (x.1.fd x.2.1 x.2.2).cells] [] u) _ from hk); clear hk
              refine hK.out _ _ (fun _ => HS.out) ?_
              clear hK K'
              (try simp only [Act.put, lsA, lsB, lsC])
              refine Draws.take 2 (v := ?v10) HS.out rfl (by kernel_rfl) (fun _ _ _ h => h) (Or.inl ⟨rfl, ?h10⟩) ?r10
              case h10 => intro w' hw'; go_simp; (try with_reducible rfl)
              (try simp only [Act.put, lsA, lsB, lsC])
              refine Draws.take 3 (v := ?v11) HS.out rfl (by kernel_rfl) (fun _ _ _ h => h) (Or.inl ⟨rfl, ?h11⟩) ?r11
              case h11 => intro w' hw'; go_simp; (try with_reducible rfl)
              (try simp only [Act.put, lsA, lsB, lsC])
              refine Draws.take 4 (v := ?v12) HS.out rfl (by kernel_rfl) (fun _ _ _ h => h) (Or.inl ⟨rfl, ?h12⟩) ?r12
              case h12 => intro w' hw'; go_simp; (try with_reducible rfl)
              (try simp only [Act.put, lsA, lsB, lsC])
              refine Draws.take 5 HS.out rfl (by kernel_rfl) (fun _ _ _ h => h) (yield_gtr HI.out _ _ _ rfl rfl rfl rfl) ?_
              (try simp only [Act.put, lsA, lsB, lsC])
              refine Draws.take 6 (v := ?v13) HS.out rfl (by kernel_rfl) (fun _ _ _ h => h) (Or.inl ⟨rfl, ?h13⟩) ?r13
              case h13 => intro w' hw'; go_simp; (try with_reducible rfl)
              (try simp only [Act.put, lsA, lsB, lsC])
              refine Draws.take 7 (v := ?v14) HS.out rfl (by kernel_rfl) (fun _ _ _ h => h) (Or.inl ⟨rfl, ?h14⟩) ?r14
              case h14 => intro w' hw'; go_simp; (try with_reducible rfl)
              (try simp only [Act.put, lsA, lsB, lsC])
              refine Draws.take 8 (v := ?v15) HS.out rfl (by kernel_rfl) (fun _ _ _ h => h) (Or.inl ⟨rfl, ?h15⟩) ?r15
              case h15 => intro w' hw'; go_simp; (try with_reducible rfl)
              (try simp only [Act.put, lsA, lsB, lsC])
              refine Draws.take 9 HS.out rfl (by kernel_rfl) (fun _ _ _ h => h) (yield_sub HW.out _ _ _ rfl rfl rfl rfl) ?_
              (try simp only [Act.put, lsA, lsB, lsC])
              refine Draws.take 10 (v := ?v16) HS.out rfl (by kernel_rfl) (fun _ _ _ h => h) (Or.inl ⟨rfl, ?h16⟩) ?r16
              case h16 => intro w' hw'; go_simp; (try with_reducible rfl)
              (try simp only [Act.put, lsA, lsB, lsC])
              refine Draws.take 11 HS.out rfl (by kernel_rfl) (fun _ _ _ h => h) (yield_kr Tryz.underlying43 rfl (Pf.infoF HG.out) (fun _ h => rng_below HY.out h.mf.bel) _ rfl rfl rfl) ?_
              (try simp only [Act.put, lsA, lsB, lsC])
              refine Draws.take 12 HS.out rfl (by kernel_rfl) (fun _ _ _ h => h) (yield_kr Tryz.underlying43 rfl (Pf.infoF HF.out) (fun _ h => (h.celAt 0 rfl).range Pf.all) _ rfl rfl rfl) ?_
              (try simp only [Act.put, lsA, lsB, lsC])
              refine Draws.does 13 rfl (by kernel_rfl) rfl (fun K' hK => ?_)
              go_simp
              go_at_call 33
              refine (byname_any _ _ _ _ _ _ _).mono ?_
              rintro e u ⟨rfl, hb, _⟩
              (try dsimp only)
              have hk := HS.out.call hb; clear hb
              clear HS; have HS := Lib.hid (show (fun u => Kg w (fun _ => False) [Th.cel b4 43 (x.1.fd x.2.1 x.2.2).cells] [] u) _ from hk); clear hk
              refine hK.out _ _ (fun _ => HS.out) ?_
              clear hK K'
              (try simp only [Act.put, lsA, lsB, lsC])
              refine Draws.take 14 HS.out rfl (by kernel_rfl) (fun _ _ _ h => h) (yield_geq HL.out _ _ _ rfl rfl rfl rfl) ?_
              (try simp only [Act.put, lsA, lsB, lsC])
              refine Draws.take 15 (v := ?v17) HS.out rfl (by kernel_rfl) (fun _ _ _ h => h) (Or.inl ⟨rfl, ?h17⟩) ?r17
              case h17 => intro w' hw'; go_simp; (try with_reducible rfl)
              (try simp only [Act.put, lsA, lsB, lsC])
              refine Draws.take 16 (v := ?v18) HS.out rfl (by kernel_rfl) (fun _ _ _ h => h) (Or.inl ⟨rfl, ?h18⟩) ?r18
              case h18 => intro w' hw'; go_simp; (try with_reducible rfl)
              (try simp only [Act.put, lsA, lsB, lsC])
              refine Draws.done (by kernel_rfl) ?_
              clear HK; have HK := Lib.hid (show Kg w (fun _ => False) [Th.cel b4 43 (x.1.fd x.2.1 x.2.2).cells] [] _ from HS.out)
              go_wp2
              go_ret
              exact ⟨by rw [HO.out]; rfl, HK.out.mf.bel⟩
            | true =>
              have HO := Lib.hid (show fokAt (pfs qs) m = true by subst hk1; exact ok_s hx hy true hrx hl)
              have HL := Lib.hid (show decide (0 ≤ cmpS y.1.nm x.1.nm) = false by rw [cmpS_ge, hl]; rfl)
              clear hr hNx hrx hN hl hy h0 hk1
              go_wp2_with (first
                | (with_reducible refine load_kg Tryz.underlying43 rfl (Pf.infoF HF.out) _ rfl (rng_below HR.out HK.out.mf.bel) rfl rfl ?_)
                | ((with_reducible refine alloc_k HK.out f_zeroP rfl rfl ?_); intro b4 u hk; clear HK; have HK := Lib.hid hk; clear hk)
                | ((with_reducible refine store_kr HK.out 0 (Pf.infoF HF.out) (Fd.one _) rfl rfl _ _ rfl rfl rfl rfl (Fd.leP zP_full HF.out) (Fd.setAllP zP_full HF.out) ?_); intro u hk; simp only [List.set_cons_zero] at hk; clear HK; have HK := Lib.hid hk; clear hk))
              refine Draws.start (S := fun u => Kg w (fun _ => False) [Th.cel b4 43 (x.1.fd x.2.1 x.2.2).cells] [] u) (n := 17) 17 rfl (by kernel_rfl) ?_
              have HS := Lib.hid (show (fun u => Kg w (fun _ => False) [Th.cel b4 43 (x.1.fd x.2.1 x.2.2).cells] [] u) (World.drew _) from HK.out.drew)
              refine Draws.take 0 HS.out rfl (by kernel_rfl) (fun _ _ _ h => h) (yield_kr Tryz.underlying43 rfl (Pf.infoF HF.out) (fun _ h => (h.celAt 0 rfl).range Pf.all) _ rfl rfl rfl) ?_
              (try simp only [Act.put, lsA, lsB, lsC])
              refine Draws.does 1 rfl (by kernel_rfl) rfl (fun K' hK => ?_)
              go_simp
              go_at_call 32
              refine (hrt _ (HRW.out.below HS.out.mf.bel (Nat.le_refl _))).mono ?_
              rintro e u ⟨rfl, hb⟩
              (try dsimp only)
              have hk := HS.out.call hb; clear hb
              clear HS; have HS := Lib.hid (show (fun u => Kg w (fun _ => False) [Th.cel b4 43 (x.1.fd x.2.1 x.2.2).cells] [] u) _ from hk); clear hk
              refine hK.out _ _ (fun _ => HS.out) ?_
              clear hK K'
              (try simp only [Act.put, lsA, lsB, lsC])
              refine Draws.take 2 (v := ?v19) HS.out rfl (by kernel_rfl) (fun _ _ _ h => h) (Or.inl ⟨rfl, ?h19⟩) ?r19
              case h19 => intro w' hw'; go_simp; (try with_reducible rfl)
              (try simp only [Act.put, lsA, lsB, lsC])
              refine Draws.take 3 (v := ?v20) HS.out rfl (by kernel_rfl) (fun _ _ _ h => h) (Or.inl ⟨rfl, ?h20⟩) ?r20
              case h20 => intro w' hw'; go_simp; (try with_reducible rfl)
              (try simp only [Act.put, lsA, lsB, lsC])
              refine Draws.take 4 (v := ?v21) HS.out rfl (by kernel_rfl) (fun _ _ _ h => h) (Or.inl ⟨rfl, ?h21⟩) ?r21
              case h21 => intro w' hw'; go_simp; (try with_reducible rfl)
              (try simp only [Act.put, lsA, lsB, lsC])
              refine Draws.take 5 HS.out rfl (by kernel_rfl) (fun _ _ _ h => h) (yield_gtr HI.out _ _ _ rfl rfl rfl rfl) ?_
              (try simp only [Act.put, lsA, lsB, lsC])
              refine Draws.take 6 (v := ?v22) HS.out rfl (by kernel_rfl) (fun _ _ _ h => h) (Or.inl ⟨rfl, ?h22⟩) ?r22
              case h22 => intro w' hw'; go_simp; (try with_reducible rfl)
              (try simp only [Act.put, lsA, lsB, lsC])
              refine Draws.take 7 (v := ?v23) HS.out rfl (by kernel_rfl) (fun _ _ _ h => h) (Or.inl ⟨rfl, ?h23⟩) ?r23
              case h23 => intro w' hw'; go_simp; (try with_reducible rfl)
              (try simp only [Act.put, lsA, lsB, lsC])
              refine Draws.take 8 (v := ?v24) HS.out rfl (by kernel_rfl) (fun _ _ _ h => h) (Or.inl ⟨rfl, ?h24⟩) ?r24
              case h24 => intro w' hw'; go_simp; (try with_reducible rfl)
              (try simp only [Act.put, lsA, lsB, lsC])
              refine Draws.take 9 HS.out rfl (by kernel_rfl) (fun _ _ _ h => h) (yield_sub HW.out _ _ _ rfl rfl rfl rfl) ?_
              (try simp only [Act.put, lsA, lsB, lsC])
              refine Draws.take 10 (v := ?v25) HS.out rfl (by kernel_rfl) (fun _ _ _ h => h) (Or.inl ⟨rfl, ?h25⟩) ?r25
              case h25 => intro w' hw'; go_simp; (try with_reducible rfl)
              (try simp only [Act.put, lsA, lsB, lsC])
              refine Draws.take 11 HS.out rfl (by kernel_rfl) (fun _ _ _ h => h) (yield_kr Tryz.underlying43 rfl (Pf.infoF HG.out) (fun _ h => rng_below HY.out h.mf.bel) _ rfl rfl rfl) ?_
              (try simp only [Act.put, lsA, lsB, lsC])
              refine Draws.take 12 HS.out rfl (by kernel_rfl) (fun _ _ _ h => h) (yield_kr Tryz.underlying43 rfl (Pf.infoF HF.out) (fun _ h => (h.celAt 0 rfl).range Pf.all) _ rfl rfl rfl) ?_
              (try simp only [Act.put, lsA, lsB, lsC])
              refine Draws.does 13 rfl (by kernel_rfl) rfl (fun K' hK => ?_)
              go_simp
              go_at_call 33
              refine (byname_any _ _ _ _ _ _ _).mono ?_
              rintro e u ⟨rfl, hb, _⟩
              (try dsimp only)
              have hk := HS.out.call hb; clear hb
              clear HS; have HS := Lib.hid (show (fun u => Kg w (fun _ => False) [Th.cel b4 43 (x.1.fd x.2.1 x.2.2).cells] [] u) _ from hk); clear hk
              refine hK.out _ _ (fun _ => HS.out) ?_
              clear hK K'
              (try simp only [Act.put, lsA, lsB, lsC])
              refine Draws.take 14 HS.out rfl (by kernel_rfl) (fun _ _ _ h => h) (yield_geq HL.out _ _ _ rfl rfl rfl rfl) ?_
              (try simp only [Act.put, lsA, lsB, lsC])
              refine Draws.take 15 (v := ?v26) HS.out rfl (by kernel_rfl) (fun _ _ _ h => h) (Or.inl ⟨rfl, ?h26⟩) ?r26
              case h26 => intro w' hw'; go_simp; (try with_reducible rfl)
              (try simp only [Act.put, lsA, lsB, lsC])
              refine Draws.take 16 (v := ?v27) HS.out rfl (by kernel_rfl) (fun _ _ _ h => h) (Or.inl ⟨rfl, ?h27⟩) ?r27
              case h27 => intro w' hw'; go_simp; (try with_reducible rfl)
              (try simp only [Act.put, lsA, lsB, lsC])
              refine Draws.done (by kernel_rfl) ?_
              clear HK; have HK := Lib.hid (show Kg w (fun _ => False) [Th.cel b4 43 (x.1.fd x.2.1 x.2.2).cells] [] _ from HS.out)
              go_wp2
              go_roundw
              case rel => exact ⟨m + 1, by have := HM.out; omega, by go_num, fun j hj => by
                rcases Nat.lt_or_ge j m with h3 | h3
                · exact HQ.out j h3
                · rw [show j = m by omega]; exact HO.out, HK.out.tail⟩
              case measure => have := HM.out; simp [intOf]; omega
      · obtain rfl : m = n := by omega
        have HO := Lib.hid (fields_all (ps := pfs qs) fun j hj => HQ.out j (by rw [HPL.out] at hj; exact hj))
        go_wp2
        go_ret
        exact ⟨by rw [HO.out, HPL.out, decide_eq_true h4]; rfl, HK.out.mf.bel⟩
  · have d4 : decide ((4 : Int) < (n : Int)) = true := by simp; omega
    have HO := Lib.hid (show fieldsB (pfs qs) = false by simp only [fieldsB, HPL.out, decide_eq_false h4, Bool.false_and])
    go_enter Tryz.func14, Tryz.ntmps14
    go_wp2
    go_ret
    exact ⟨by rw [HO.out]; rfl, HK.out.mf.bel⟩

end Go.Proofs.YtgblnlpfgdbnnaaGreat
