/- Contracts of a log's Append. -/
import Derived.Test.YtnbhgnkkedainaaDoorWb
namespace Go.Proofs.YtnbhgnkkedainaaDoor
open Go.ChangeShapes Go.WideShapes Go.ChangeAt Go.RowKit

theorem append_nil (A : Option Addr) (k c : Nat) (w : World) : Calls Tryd.prog 14 #[.pointer none, .slice A k c] w fun e w' => e = .returned (.int .i64 1) ∧ w = w' := by
  go_enter Tryd.func14, Tryd.ntmps14
  go_wp2
  go_ret
  exact ⟨rfl, rfl⟩
theorem append_long (r : Nat) (A : Option Addr) (k c : Nat) (hk : 32768 < k) (w : World) : Calls Tryd.prog 14 #[.pointer (some ⟨r, 0, none⟩), .slice A k c] w fun e w' => e = .returned (.int .i64 2) ∧ w = w' := by
  have hp := put_long A k c hk w
  go_enter Tryd.func14, Tryd.ntmps14
  go_wp2_with (first
    | (go_at_call 31; (with_reducible refine hp.mono ?_); rintro e u ⟨rfl, rfl⟩))
  go_ret
  exact ⟨rfl, rfl⟩
theorem put_n (A : Option Addr) (n c : Nat) (l P : List UInt8) (hP : frm l = P) (N : Nat) (hN : P.length = N) (hl : l.length = n) (hm : n ≤ 32768) (w : World) (hd : Bys w A l) (hw : Nib w) :
    Calls Tryd.prog 31 #[.slice A n c] w fun e w' => ∃ A c, (e = .returned (.tuple #[.slice A N c, .int .i64 0]) ∧ N ≤ c) ∧ KO w (.slice A N c) P w' := by
  subst hP; subst hN
  exact put_any A n c l hl hm w hd hw
theorem append_noroom (r rd z : Nat) (f : Int) (v vd : Value) (L : List BPart) (d : List UInt8) (A : Option Addr) (k c : Nat) (p : List UInt8) (hp : p.length = k) (hk : k ≤ 32768) (hz : z ≤ 1048576) (hd : d.length ≤ z) (hroom : z < d.length + (8 + k)) (w : World) (hn : Nib w) (hA : Bys w A p)
    (hl : Lo w r rd v L) (hdk : Dk w rd z vd f d) :
    Calls Tryd.prog 14 #[.pointer (some ⟨r, 0, none⟩), .slice A k c] w fun e w' => e = .returned (.int .i64 7) ∧ Below w.heap.size w w' := by
  obtain ⟨P, hP⟩ : ∃ P, frm p = P := ⟨_, rfl⟩
  have hN : P.length = 8 + k := by rw [← hP, frm_length, hp]
  generalize 8 + k = N at *
  have hput := put_n A k c p P hP N hN hp hk w hA hn
  have HX := Lib.hid (show ∀ u, Below w.heap.size w u → Dk u rd z vd f d ∧ u.cell? ⟨r, 0, none⟩ = some (.pointer (some ⟨rd, 0, none⟩)) from fun u hb => ⟨hdk.below hb, (hl.below hb).c0⟩)
  clear hA hn hl hdk
  have HD := Lib.hid hd; have HR := Lib.hid hroom
  clear hd hroom
  go_enter Tryd.func14, Tryd.ntmps14
  go_wp2_with (first
    | (go_at_call 31; (with_reducible refine hput.mono ?_); rintro e u ⟨A1, c1, ⟨rfl, _⟩, hk⟩; obtain ⟨hd, c0⟩ := HX.out u hk.bel; have HB := Lib.hid hk.bel; have HDK := Lib.hid hd; clear hk hd HX)
    | (go_at_call 24; (with_reducible refine (append_full _ z f vd d A1 N c1 HD.out hz HR.out _ HDK.out).mono ?_); rintro e u ⟨rfl, hb⟩; have hb := HB.out.trans (hb.mono HB.out.size); clear HB; have HB := Lib.hid hb; clear hb))
  go_ret
  exact ⟨rfl, HB.out⟩
/-- What a log's Append leaves: a record more, on the disk too, and all safe. -/
def Appends (w : World) (F : Nat → Prop) (r rd z : Nat) (L : List BPart) (p d : List UInt8) (e : Ending) (w' : World) : Prop :=
  e = .returned (.int .i64 0) ∧ ∃ v' vd' A' c', Kg w F [Th.lo r rd v' (L ++ [(A', c', p)]), Th.dk rd z ((d ++ frm p).length : Nat) vd' (d ++ frm p)] [] w'
set_option maxRecDepth 100000 in
theorem append_log (r rd z : Nat) (f : Int) (v vd : Value) (L : List BPart) (d : List UInt8) (A : Option Addr) (k c : Nat) (p : List UInt8) (hp : p.length = k) (hk : k ≤ 32768) (hz : z ≤ 1048576) (hroom : d.length + (8 + k) ≤ z) (hL : L.length ≤ 1000000) (w : World) (hn : Nib w) {F : Nat → Prop}
    (h : Kg w F [Th.lo r rd v L, Th.dk rd z f vd d] [Th.bys A p] w) :
    Calls Tryd.prog 14 #[.pointer (some ⟨r, 0, none⟩), .slice A k c] w (Appends w F r rd z L p d) := by
  obtain ⟨P, hP⟩ : ∃ P, frm p = P := ⟨_, rfl⟩
  have hN : P.length = 8 + k := by rw [← hP, frm_length, hp]
  have hput := put_n A k c p P hP (8 + k) hN hp hk w (h.bys 0 rfl) hn
  unfold Appends
  rw [hP]
  clear hP
  generalize 8 + k = N at *
  have HN := Lib.hid hN
  have HR := Lib.hid hroom
  have HDN := Lib.hid (show (d ++ P).length = d.length + N by rw [List.length_append, hN])
  have HP := Lib.hid hp
  have HLL := Lib.hid (show L.length ≤ 1048000 by omega)
  obtain ⟨Av, cv, rfl, _⟩ := (h.lo 0 rfl).slice
  have HK := Lib.hid h
  clear h hn hN hroom hp hL
  have T1 := True.intro
  go_enter Tryd.func14, Tryd.ntmps14
  go_wp2_with (first
    | (go_at_call 31; (with_reducible refine hput.mono ?_); rintro e u ⟨A1, c1, ⟨rfl, _⟩, hk⟩; have hk := HK.out.makes hk; have c0 := (hk.lo 0 rfl).c0; clear HK hput; have HK := Lib.hid hk; clear hk)
    | (go_at_call 24; (with_reducible refine (append_any _ z f vd d A1 N c1 P HN.out hz HR.out _ (HK.out.bys 0 rfl) (HK.out.dk 1 rfl)).mono ?_); rintro e u ⟨rfl, v1, hd, hm⟩; have hk := HK.out.disk 1 rfl hm hd; simp only [List.set_cons_zero, List.set_cons_succ] at hk; clear hd hm c0; have c0 := (hk.lo 0 rfl).c0; clear HK; have HK := Lib.hid hk; clear hk)
    | (go_at_call 30; (with_reducible refine (sync_any _ _ _ _ _ _ rfl _ (HK.out.dk 1 rfl)).mono ?_); rintro e u ⟨rfl, hd, hm⟩; have hk := HK.out.disk 1 rfl hm hd; simp only [List.set_cons_zero, List.set_cons_succ] at hk; clear hd hm c0; clear HK; have HK := Lib.hid hk; clear hk))
  have hk := HK.out.drew
  clear HK
  have HK := Lib.hid hk; clear hk
  refine Draws.start (S := fun u' : World => u'.cell? ⟨r, 1, none⟩ = some (.slice Av L.length cv)) (n := 9) 12 rfl (by kernel_rfl) ?_
  have HS := Lib.hid (show (fun u' : World => u'.cell? ⟨r, 1, none⟩ = some (.slice Av L.length cv)) (World.drew _) from (HK.out.lo 0 rfl).c1)
  refine Draws.take 0 (v := ?v1) HS.out rfl (by kernel_rfl) (fun _ _ _ h => h) (Or.inl ⟨rfl, ?h1⟩) ?r1
  case h1 => intro w' hw'; go_simp; (try with_reducible rfl)
  (try simp only [Act.put, List.setIfInBounds_toArray, List.set_cons_zero, List.set_cons_succ])
  refine Draws.take 1 (v := ?v2) HS.out rfl (by kernel_rfl) (fun _ _ _ h => h) (Or.inl ⟨rfl, ?h2⟩) ?r2
  case h2 => intro w' hw'; go_simp; (try with_reducible rfl)
  (try simp only [Act.put, List.setIfInBounds_toArray, List.set_cons_zero, List.set_cons_succ])
  refine Draws.take 2 (v := ?v3) HS.out rfl (by kernel_rfl) (fun _ _ _ h => h) (Or.inl ⟨rfl, ?h3⟩) ?r3
  case h3 => intro w' hw'; go_simp; (try with_reducible rfl)
  (try simp only [Act.put, List.setIfInBounds_toArray, List.set_cons_zero, List.set_cons_succ])
  refine Draws.take 3 (v := ?v4) HS.out rfl (by kernel_rfl) (fun _ _ _ h => h) (Or.inl ⟨rfl, ?h4⟩) ?r4
  case h4 => intro w' hw'; go_simp; (try with_reducible rfl)
  (try simp only [Act.put, List.setIfInBounds_toArray, List.set_cons_zero, List.set_cons_succ])
  refine Draws.take 4 HS.out rfl (by kernel_rfl) (fun _ _ _ h => h) (yield_t rfl (fun _ h => h) _ rfl rfl rfl) ?_
  (try simp only [Act.put, List.setIfInBounds_toArray, List.set_cons_zero, List.set_cons_succ])
  refine Draws.take 5 (v := ?v5) HS.out rfl (by kernel_rfl) (fun _ _ _ h => h) (Or.inl ⟨rfl, ?h5⟩) ?r5
  case h5 => intro w' hw'; go_simp; (try with_reducible rfl)
  (try simp only [Act.put, List.setIfInBounds_toArray, List.set_cons_zero, List.set_cons_succ])
  refine Draws.does 6 rfl (by kernel_rfl) rfl (fun K' hK => ?_)
  go_simp
  go_at_call 32
  refine (clone_any _ _ _ p HP.out (by omega) _ (HK.out.bys 1 rfl)).mono ?_
  rintro e u ⟨A3, c3, ⟨rfl, hc3⟩, hk⟩
  (try dsimp only)
  have hk := HK.out.add (t := Th.row (.slice A3 p.length c3) p) hk.bel (hk.own.mono (Nat.zero_le _)) (fun j hj => hk.own.base j hj)
  clear HK HS
  have HK := Lib.hid hk; clear hk
  refine hK.out _ _ (fun _ => (HK.out.lo 1 rfl).c1) ?_
  clear hK K'
  (try simp only [Act.put, List.setIfInBounds_toArray, List.set_cons_zero, List.set_cons_succ])
  refine Draws.does 7 rfl (by kernel_rfl) rfl (fun K' hK => ?_)
  refine wp_build1 _ rfl rfl ?_
  (try dsimp only)
  have hnew := (Cel.new u 34 [.slice A3 p.length c3]).cell (k := 0) rfl
  have hk := HK.out.call (below_new u (.cells #[.slice A3 p.length c3] 34))
  clear HK
  generalize u.heap.size = g at *
  generalize hU : u.alloc (.cells #[.slice A3 p.length c3] 34) = u1 at *
  have hnew' : u1.cell? ⟨g, 0, none⟩ = some (.slice A3 p.length c3) := hnew
  clear hnew hU
  have HK := Lib.hid hk; have HNEW := Lib.hid hnew'; clear hk hnew'
  refine hK.out _ _ (fun _ => (HK.out.lo 1 rfl).c1) ?_
  clear hK K'
  (try simp only [Act.put, List.setIfInBounds_toArray, List.set_cons_zero, List.set_cons_succ])
  refine Draws.does 8 rfl (by kernel_rfl) rfl (fun K' hK => ?_)
  refine wp_push (x := (A3, c3, p)) (HK.out.lo 1 rfl).own HNEW.out _ _ rfl rfl rfl HLL.out ?_
  intro v' u2 ho hg hv
  obtain ⟨Bv, cb, rfl, _⟩ := row_slice ho
  (try dsimp only)
  have hc := (HK.out.lo 1 rfl).cel
  have hc1 : Cel u2 r 63 [.pointer (some ⟨rd, 0, none⟩), .slice Av L.length cv] := (hg.block r hc.lt fun e => cel_row hc (by decide) (HK.out.lo 1 rfl).own e.symm).trans hc
  have hk := HK.out.push rfl hg hv ho
  clear HK HNEW hc
  have HK := Lib.hid hk; have HC := Lib.hid hc1
  have HO := Lib.hid ho
  clear hk hc1 ho hg hv
  refine hK.out _ _ (fun _ => HC.out.cell rfl) ?_
  clear hK K'
  (try simp only [Act.put, List.setIfInBounds_toArray, List.set_cons_zero, List.set_cons_succ])
  refine Draws.does 9 rfl (by kernel_rfl) rfl (fun K' hK => ?_)
  go_simp
  refine hK.out _ _ (fun h => absurd h (by omega)) ?_
  clear hK K'
  (try simp only [Act.put, List.setIfInBounds_toArray, List.set_cons_zero, List.set_cons_succ])
  refine Draws.does 10 rfl (by kernel_rfl) rfl (fun K' hK => ?_)
  go_simp
  refine hK.out _ _ (fun h => absurd h (by omega)) ?_
  clear hK K'
  (try simp only [Act.put, List.setIfInBounds_toArray, List.set_cons_zero, List.set_cons_succ])
  refine Draws.does 11 rfl (by kernel_rfl) rfl (fun K' hK => ?_)
  refine wp_store_t (v := .slice Bv (L.length + 1) cb) HC.out rfl rfl _ _ rfl rfl rfl rfl (by simp) ?_
  refine hK.out _ _ (fun h => absurd h (by omega)) ?_
  clear hK K'
  (try simp only [Act.put, List.setIfInBounds_toArray, List.set_cons_zero, List.set_cons_succ])
  refine Draws.done (by kernel_rfl) ?_
  clear HC HO
  go_wp2_with (first
    | fail)
  go_ret
  exact ⟨rfl, _, _, _, _, HK.out.sub (by simp)⟩
end Go.Proofs.YtnbhgnkkedainaaDoor
