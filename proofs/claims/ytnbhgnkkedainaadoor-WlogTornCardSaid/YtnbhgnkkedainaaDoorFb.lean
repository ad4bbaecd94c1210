/- Slices of slices of bytes that come in; frames one behind the other, cut off. -/
import Derived.Test.YtnbhgnkkedainaaDoorFe
import Derived.Deep.Matrix
namespace Go.Proofs.YtnbhgnkkedainaaDoor
open Go.ChangeShapes Go.WideShapes Go.ChangeAt Go.RowKit

/-- A slice of slices of bytes. -/
def LL (w : World) (A : Option Addr) (n : Nat) (L : List BPart) : Prop := L.length = n ∧ (n = 0 ∨ ∃ b off : Nat, A = some ⟨b, off, none⟩ ∧ ∀ i x, L[i]? = some x → w.cell? ⟨b, off + i, none⟩ = some (prt x) ∧ Bys w x.1 x.2.2)
theorem LL.one {w : World} {A : Option Addr} {n : Nat} {L : List BPart} (h : LL w A n L) {m : Nat} (hm : m < n) : ∃ b off B d, A = some ⟨b, off, none⟩ ∧ L[m]? = some (B, d, (txt L).getD m []) ∧ w.cell? ⟨b, off + m, none⟩ = some (.slice B ((txt L).getD m []).length d) ∧ Bys w B ((txt L).getD m []) := by
  obtain ⟨h1, h2⟩ := h
  rcases h2 with h2 | ⟨b, off, rfl, h3⟩
  · omega
  · obtain ⟨B, d, hx⟩ := txt_get (L := L) rfl (m := m) (by rw [txt_length]; omega)
    obtain ⟨h4, h5⟩ := h3 m _ hx
    exact ⟨b, off, B, d, rfl, hx, h4, h5⟩
theorem byte_list {zs : List Int} {n : Nat} (h : ∀ z ∈ zs, (Lit.int .u8 z).wf = true) (hn : n ≤ zs.length) {i : Nat} (hi : i < n) : ((((zs.take n).map fun z => UInt8.ofNat z.toNat).getD i 0).toNat : Int) = zs.getD i 0 := by
  have hz1 : i < zs.length := by omega
  have hw := h (zs.getD i 0) (by rw [List.getD_eq_getElem?_getD, List.getElem?_eq_getElem hz1]; exact List.getElem_mem hz1)
  have hw2 := u8_wf hw
  have e : ((zs.take n).map fun z => UInt8.ofNat z.toNat).getD i 0 = UInt8.ofNat (zs.getD i 0).toNat := by
    simp [List.getD, hi, hz1]
  rw [e, toNat_ofInt hw2.1 hw2.2]
theorem open_B {H : Type} {enc : TypeId × Value → H} {W : World} {b b' : Nat} {held : Bool} {v : Value} {d : DataW H} {p : List MemPlace} (hval : Value.okWide Tryd.prog W .any b' 31 v)
    (h : DataW.Trod enc Tryd.prog W b (fun _ => true) held 31 v d p) : ∃ A n c L, v = .slice A n c ∧ LL W A n L ∧ n ≤ c := by
  obtain ⟨A, n, c, rfl⟩ := okWide_slice Tryd.underlying31 hval
  obtain ⟨fuel, hf⟩ := h
  rcases Go.Deep.open_int_rows Tryd.underlying31 Tryd.underlying34 Tryd.underlying5 (by kernel_rfl) (by kernel_rfl) hf with ⟨hcs, _⟩ | ⟨a, len, cap, A', L', C', Z', hcs, _, hl, _, _, hr⟩
  · simp [Value.cells] at hcs
    obtain ⟨rfl, rfl, rfl⟩ := hcs
    exact ⟨none, 0, 0, [], rfl, ⟨rfl, .inl rfl⟩, Nat.le_refl _⟩
  · simp [Value.cells] at hcs
    obtain ⟨rfl, rfl, rfl⟩ := hcs
    refine ⟨some a, n, _, (List.range n).map fun r => (A' r, C' r, ((Z' r).take (L' r)).map fun z => UInt8.ofNat z.toNat), rfl, ⟨by simp, ?_⟩, hl⟩
    rcases Nat.eq_zero_or_pos n with h0 | h0
    · exact .inl h0
    · right
      have hsp := World.cell?_spot (hr 0 (by omega)).1
      obtain ⟨b0, off, spot⟩ := a
      have hs2 : spot = none := by simpa [Addr.add] using hsp
      subst hs2
      refine ⟨b0, off, rfl, fun i x hx => ?_⟩
      have hi : i < n := by
        have := (List.getElem?_eq_some_iff.1 hx).1
        simpa using this
      simp only [List.getElem?_map, List.getElem?_range hi, Option.map_some, Option.some.injEq] at hx
      subst hx
      obtain ⟨r1, r2, r3, r4, r5, r6, r7⟩ := hr i (by omega)
      rw [Go.WideShapes.add_plain] at r1
      have hlen : (((Z' i).take (L' i)).map fun z => UInt8.ofNat z.toNat).length = L' i := by simp; omega
      refine ⟨by rw [r1]; simp only [prt, hlen], ?_⟩
      rcases Nat.eq_zero_or_pos (L' i) with h1 | h1
      · exact .inl (List.eq_nil_of_length_eq_zero (by rw [hlen]; exact h1))
      · cases hA : A' i with
        | none => have := r6 hA; omega
        | some a' =>
          obtain ⟨_, hcell⟩ := r7 a' hA
          obtain ⟨b1, off1, spot1⟩ := a'
          have hs3 : spot1 = none := by simpa [Addr.add] using World.cell?_spot (hcell 0 (by omega))
          subst hs3
          refine .inr ⟨b1, off1, rfl, fun j hj => ?_⟩
          rw [hlen] at hj
          have := hcell j (by omega)
          rw [Go.WideShapes.add_plain] at this
          rw [this, byte_list r5 (by omega) hj]
/-- Of frames one behind the other, cut off, just the whole ones are scanned. -/
theorem cut_frames {M : List (List UInt8)} (hM : ∀ p ∈ M, p.length ≤ 32768) {k j : Nat} (_hj : j ≤ M.length) (h1 : (fls (M.take j)).length ≤ k) (h2 : ∀ i, j < i → i ≤ M.length → k < (fls (M.take i)).length) : scn ((fls M).take k) = M.take j := by
  have e : (fls M).take k = fls (M.take j) ++ (fls (M.drop j)).take (k - (fls (M.take j)).length) := by
    conv => lhs; rw [← List.take_append_drop j M, fls_append]
    rw [List.take_append, List.take_of_length_le h1]
  have hr : tkE ((fls (M.drop j)).take (k - (fls (M.take j)).length)) ≠ 0 := by
    rcases Nat.lt_or_ge j M.length with hlt | hge
    · have h3 := h2 (j + 1) (by omega) (by omega)
      have hd : M.drop j = M[j] :: M.drop (j + 1) := List.drop_eq_getElem_cons hlt
      have ht : M.take (j + 1) = M.take j ++ [M[j]] := by rw [List.take_add_one, List.getElem?_eq_getElem hlt]; rfl
      rw [ht, fls_append, fls_one, List.length_append] at h3
      rw [hd, fls_cons]
      have hp := hM _ (List.getElem_mem hlt)
      generalize M[j] = p at *
      generalize hq : k - (fls (M.take j)).length = q
      have hql : q < (frm p).length := by omega
      rw [List.take_append_of_le_length (by omega)]
      intro h0
      obtain ⟨z1, z2, z3⟩ := tk_more h0 ((frm p).drop q)
      obtain ⟨y1, y2, y3⟩ := tk_frm hp []
      rw [List.append_nil] at y2
      rw [List.take_append_drop] at z2
      have := (tk_len h0).2.2.2
      rw [List.length_take] at this
      omega
    · rw [List.drop_eq_nil_of_le hge, show fls [] = [] from rfl, List.take_nil]; decide
  rw [e, scn_fls _ _ fun p hp => hM p (List.mem_of_mem_take hp), scn_no hr, List.append_nil]
theorem fls_mono (M : List (List UInt8)) {i j : Nat} (h : i ≤ j) : (fls (M.take i)).length ≤ (fls (M.take j)).length := by
  obtain ⟨d, rfl⟩ : ∃ d, j = i + d := ⟨j - i, by omega⟩
  rw [List.take_add, fls_append, List.length_append]; omega
end Go.Proofs.YtnbhgnkkedainaaDoor
