/- plan.makes. -/
import Derived.Test.YtgblnlpfgdbnnaaGreatZ33
namespace Go.Proofs.YtgblnlpfgdbnnaaGreat
set_option maxRecDepth 100000
open Go.ChangeShapes Go.WideShapes Go.ChangeAt Go.RowKit

def mkE (ps : List Pf) (p : Pl) : Int := if errP ps ≠ 0 then errP ps else if addE (epP ps) 1 ≠ 0 then addE (epP ps) 1 else if (draftsP p (ps.map spanP)).any greatB then 2 else if (draftsP p (ps.map spanP)).any beyondB then 14 else 0
def mkL (ps : List Pf) (p : Pl) : List Pf := if mkE ps p = 0 then (draftsP p (ps.map spanP)).map fun d => bldP d (addN (epP ps) 1) else []
theorem drafts_len (p : Pl) (l : List Sp) : 0 < (draftsP p l).length ∧ (draftsP p l).length ≤ 2 := by
  unfold draftsP
  simp only
  repeat' split
  all_goals simp
theorem drafts_nm {p : Pl} (h1 : p.nm.size ≤ 1000) (h2 : p.ot.size ≤ 1000) {l : List Sp} {d : Dr} (hd : d ∈ draftsP p l) : d.nm.size ≤ 1000 := by
  unfold draftsP at hd
  simp only at hd
  repeat' split at hd
  all_goals
    simp only [List.mem_cons, List.not_mem_nil, or_false] at hd
  all_goals
    first
      | (subst hd; exact h1)
      | (rcases hd with rfl | rfl; exact h1; exact h2)
/-- Fields that were built so far, zeros behind them. -/
def frow (ds : List Dr) (ep : Int) (n m : Nat) : List Q := (ds.take m).map (fun d => (bldP d ep, none, 0)) ++ List.replicate (n - m) (zP, none, 0)
theorem frow_len {ds : List Dr} {ep : Int} {n m : Nat} (hp : ds.length = n) (hm : m ≤ n) : (frow ds ep n m).length = n := by
  simp [frow, hp]; omega
theorem frow_0 (ds : List Dr) (ep : Int) (n : Nat) : frow ds ep n 0 = List.replicate n (zP, none, 0) := by simp [frow]
theorem frow_full (ds : List Dr) (ep : Int) (n m : Nat) : ∀ x ∈ frow ds ep n m, x.1.full := fun x hx => by
  rcases List.mem_append.1 hx with hx | hx
  · obtain ⟨d, _, rfl⟩ := List.mem_map.1 hx
    exact bldP_full d ep
  · obtain ⟨_, rfl⟩ := List.mem_replicate.1 hx
    exact zP_full
theorem frow_set {ds : List Dr} {ep : Int} {n m : Nat} (hp : ds.length = n) {d : Dr} (hm : ds[m]? = some d) (hlt : m < n) : (frow ds ep n m).set m (bldP d ep, none, 0) = frow ds ep n (m + 1) := by
  have h1 : List.replicate (n - m) ((zP, none, 0) : Q) = (zP, none, 0) :: List.replicate (n - (m + 1)) (zP, none, 0) := by
    rw [show n - m = (n - (m + 1)) + 1 by omega]; rfl
  unfold frow
  rw [h1, List.take_add_one, hm, Option.toList_some, List.map_append, List.map_cons, List.map_nil, List.set_append_right _ _ (by simp; omega)]
  simp only [List.length_map, List.length_take]
  rw [show m - min m ds.length = 0 by omega]
  simp
theorem frow_put {ds : List Dr} {ep : Int} {n m : Nat} (hp : ds.length = n) {d : Dr} (hm : ds[m]? = some d) (hlt : m < n) : spl (fcs (frow ds ep n m)) (m * 587) ((bldP d ep).fd none 0).cells = fcs (frow ds ep n (m + 1)) := by
  rw [← frow_set hp hm hlt]
  exact fcs_set (y := (bldP d ep, none, 0)) (frow_full ds ep n m) (by rw [frow_len hp (by omega)]; exact hlt) (bldP_full d ep)
theorem frow_le {ds : List Dr} {ep : Int} {n m : Nat} (hp : ds.length = n) (hlt : m < n) (d : Dr) : m * 587 + ((bldP d ep).fd none 0).cells.length ≤ (fcs (frow ds ep n m)).length :=
  fcs_le (y := (bldP d ep, none, 0)) (frow_full ds ep n m) (by rw [frow_len hp (by omega)]; exact hlt) (bldP_full d ep)
theorem frow_all {ds : List Dr} {ep : Int} {n : Nat} (hp : ds.length = n) : frow ds ep n n = ds.map fun d => (bldP d ep, none, 0) := by
  unfold frow
  rw [← hp, List.take_length, Nat.sub_self]; simp
theorem made_f (n : Nat) : madeCells (Value.agg (zP.fd none 0).cells.toArray).cells (n * 587) = (fcs (List.replicate n ((zP, none, 0) : Q))).toArray := by
  have hz : (zP.fd none 0).cells.length = 587 := Pf.len zP_full
  have hf : ∀ x ∈ List.replicate n ((zP, none, 0) : Q), x.1.full := fun x hx => by
    obtain ⟨_, rfl⟩ := List.mem_replicate.1 hx; exact zP_full
  have hl : (fcs (List.replicate n ((zP, none, 0) : Q))).length = n * 587 := by rw [fcs_len hf, List.length_replicate]
  apply Array.ext
  · rw [size_madeCells, List.size_toArray, hl]
  · intro i h1 h2
    rw [size_madeCells] at h1
    have hj : (List.replicate n ((zP, none, 0) : Q))[i / 587]? = some (zP, none, 0) := by
      rw [List.getElem?_replicate, if_pos (by omega)]
    have hi : i % 587 < (zP.fd none 0).cells.length := by rw [hz]; omega
    have h3 : (fcs (List.replicate n ((zP, none, 0) : Q)))[i / 587 * 587 + i % 587]? = some ((zP.fd none 0).cells[i % 587]) := fcs_get (x := (zP, none, 0)) hf hj (i % 587) _ (List.getElem?_eq_getElem hi)
    rw [show i / 587 * 587 + i % 587 = i by omega] at h3
    have h4 := (List.getElem?_eq_some_iff.1 h3).2
    rw [show (fcs (List.replicate n ((zP, none, 0) : Q))).toArray[i] = (fcs (List.replicate n ((zP, none, 0) : Q)))[i]'(by rw [hl]; exact h1) from rfl, h4]
    show (madeCells (zP.fd none 0).cells.toArray (n * 587))[i] = _
    simp only [madeCells, Array.getElem_map, Array.getElem_range, List.size_toArray, hz]
    rw [getElem!_pos _ _ (by simpa [hz] using hi)]
    simp
theorem make_kf {ops : Array Oper} {rest : List Oper} {o : Oper} {a : Act} {w u : World} {F : Nat → Prop} {own ro : List Th} {Q' : Exit → Act → World → Prop} (hk : Kg w F own ro u) (n : Nat) (hn : n ≤ 1000)
    (hgd : o.guard = none) (x y : Operand) (ho : o.op = .makeSlice 22 x y) (hx : a.eval x = .int .i64 (n : Int)) (hy : a.eval y = .int .i64 (n : Int))
    (h : ∀ b u', Kg w F (Th.cel b 43 (fcs (List.replicate n ((zP, none, 0) : Q))) :: own) ro u' → wpList Tryz.prog ops Q' rest (a.put o.dst (.slice (some ⟨b, 0, none⟩) n n)) u') : wpList Tryz.prog ops Q' (o :: rest) a u :=
  wpList_plain hgd fun K hK => by
    obtain ⟨i0, hi0, hz0, hz1, hz2⟩ := info_parts f_info4
    have e := run_make (P := Tryz.prog) u 22 43 i0 (.agg (zP.fd none 0).cells.toArray) Tryz.underlying22 hi0 hz0 .i64 .i64 (n : Int) (n : Int) (by omega) (Int.le_refl _) (by rw [hz2]; omega) (by omega)
    simp only [Int.toNat_natCast, hz1, made_f] at e
    unfold Oper.wp execOp
    simp only [ho, hx, hy, Sem.run_bind, Sem.run_pure, Result.andThen_ok, e]
    exact hK _ _ (h _ _ (hk.new rfl))
theorem Kg.asOg {w u : World} {F : Nat → Prop} {own ro : List Th} {b s n : Nat} {t : TypeId} {cs : List Value} (h : Kg w F (Th.cel b t cs :: own) ro u) (hl : cs.length = n * s) (hn : n ≤ 1000) : Kg w F (Th.og t s (.slice (some ⟨b, 0, none⟩) n n) n cs :: own) ro u := by
  have hf : ∀ k, (Th.og t s (.slice (some ⟨b, 0, none⟩) n n) n cs).foot k → k = b := fun k hk => by
    have hk : (Value.slice (some ⟨b, 0, none⟩) n n).ownBlock = some k := hk
    injection hk with hk; exact hk.symm
  refine h.tail.cons (t := Th.og t s (.slice (some ⟨b, 0, none⟩) n n) n cs) (cel_own (h.celAt 0 rfl) hl hn 0 (Nat.zero_le _)) (fun k hk => h.cov _ List.mem_cons_self k (hf k hk)) (fun e he k hk hc => ?_) (fun r hr k hk hc => h.free r hr _ List.mem_cons_self k hk (hf k hc))
  obtain ⟨j, hj⟩ := List.mem_iff_getElem?.1 he
  exact h.lone 0 (j + 1) _ e rfl (by simpa using hj) (by omega) k (hf k hk) hc
theorem OF.built {w u : World} {ro : List Th} {b n : Nat} {qs : List Q} (h : Kg w (fun _ => False) [Th.cel b 43 (fcs qs)] ro u) (hl : qs.length = n) (hn : n ≤ 1000) (hf : ∀ x ∈ qs, x.1.full) (hh : ∀ x ∈ qs, x.1.hs = []) : OF w (.slice (some ⟨b, 0, none⟩) n n) qs u := by
  subst hl
  have h1 := (h.sub (ro' := []) (by simp)).asOg (n := qs.length) (s := 587) (fcs_len hf) hn
  refine ⟨h1.also (t := Th.hq qs) (fun x hx => ?_) (fun e he k hk => ?_), hf, fun k hk => ?_⟩
  · rw [hh x hx]; exact Row.nil u x.2.1
  · obtain ⟨x, hx, h0, _⟩ := hk; rw [hh x hx] at h0; exact absurd rfl h0
  · obtain ⟨x, hx, h0, _⟩ := hk; rw [hh x hx] at h0; exact absurd rfl h0
theorem DS.rng {w : World} {b off n m : Nat} {l : List Dr} (h : DS w (some ⟨b, off, none⟩) n l) {d : Dr} (hd : l[m]? = some d) (hm : m < n) : w.rangeAt b (off + m * 5) d.cells := by
  obtain ⟨b', off', e, hr⟩ := h.base (by omega)
  injection e with e; injection e with e1 e2
  subst e1; subst e2
  exact hr m d hd
theorem OF.none {w u : World} (h : Below w.heap.size w u) : OF w (.slice none 0 0) [] u := ⟨(OL.nil w).kg.call h, by simp, fun k hk => by obtain ⟨x, hx, _⟩ := hk; cases hx⟩
set_option maxHeartbeats 4000000 in
theorem makes_any (p : Pl) (hP : PlOk p) (hkk : 1 ≤ p.k ∧ p.k ≤ 6) (ha : isB p.a = true) (hb : isB p.b = true) (A : Option Addr) (n c : Nat) (qs : List Q) (hn : 0 < n ∧ n ≤ 4) (hO : ∀ x ∈ qs, okP x.1) (hB : ∀ s ∈ (pfs qs).map spanP, bdS s 1099511627776) (w : World) (hd : FR w A n qs) :
    Calls Tryz.prog 50 #[.agg p.cells.toArray, .slice A n c] w fun e u => ∃ v qs', e = .returned (.tuple #[v, .int .i64 (mkE (pfs qs) p)]) ∧ OF w v qs' u ∧ pfs qs' = mkL (pfs qs) p := by
  have hmf : ∀ (fn : Fn) (first cap : Array Value) (w : World), (Instr.makeFunc fn first cap).run Tryz.prog w = .ok (.func fn first cap) w := fun _ _ _ _ => rfl
  have HK := Lib.hid (Kg.start w)
  have HPL := Lib.hid (show (pfs qs).length = n by rw [pfs_len]; exact hd.1)
  have hsp := fun w h => spans_any A n c qs (by omega) hO w h
  have hnx := fun w h => next_any A n c qs (by omega) w h
  have HD := Lib.hid hd; clear hd
  have HN4 := Lib.hid hn
  have HA := Lib.hid ha; have HBB := Lib.hid hb; have HKK := Lib.hid hkk; have HBD := Lib.hid hB
  have HOK := Lib.hid hP.k
  have HNM := Lib.hid hP.nm; have HOT := Lib.hid hP.ot
  have HML := Lib.hid (show ((pfs qs).map spanP).length = n by rw [List.length_map]; exact HPL.out)
  obtain ⟨s, hs0⟩ : ∃ s, ((pfs qs).map spanP)[0]? = some s := ⟨_, List.getElem?_eq_getElem (by rw [List.length_map, HPL.out]; exact hn.1)⟩
  have H0 := Lib.hid hs0
  clear hn ha hb hkk hB hP hO hs0
  by_cases h1 : errP (pfs qs) = 0
  · have HZ := Lib.hid h1
    rw [h1] at hsp
    by_cases h2 : addE (epP (pfs qs)) 1 = 0
    · have HZ2 := Lib.hid h2
      rw [h2] at hnx
      obtain ⟨ep, hep⟩ : ∃ ep, addN (epP (pfs qs)) 1 = ep := ⟨_, rfl⟩
      rw [hep] at hnx
      have HEP := Lib.hid hep
      clear h1 h2 hep
      obtain ⟨ds, hds⟩ : ∃ ds, draftsP p ((pfs qs).map spanP) = ds := ⟨_, rfl⟩
      have HDS := Lib.hid hds
      have HLN := Lib.hid (show 0 < ds.length ∧ ds.length ≤ 2 by rw [← hds]; exact drafts_len p _)
      have HND := Lib.hid (show ds.length ≤ 1000 by have := HLN.out; omega)
      have HSZ := Lib.hid (show ∀ d ∈ ds, d.nm.size ≤ 1000 by rw [← hds]; exact fun d hd => drafts_nm HNM.out HOT.out hd)
      clear hds
      cases hg : ds.any greatB with
      | true =>
        have HG := Lib.hid hg
        have HT := Lib.hid (show mkE (pfs qs) p = 2 by rw [mkE, if_neg (fun h => h HZ.out), if_neg (fun h => h HZ2.out), HDS.out, if_pos hg])
        have HU := Lib.hid (show mkL (pfs qs) p = [] by rw [mkL, if_neg (by rw [HT.out]; decide)])
        clear hg
        go_enter Tryz.func50, Tryz.ntmps50
        go_wp2_with (first
          | ((with_reducible refine box_k (cs := p.cells) HK.out rfl _ rfl rfl ?_); intro bp u hk; clear HK; have HK := Lib.hid hk; clear hk)
          | (go_at_call 83; (with_reducible refine (hsp _ (HD.out.below HK.out.mf.bel)).mono ?_); rintro e u ⟨v, rfl, hb, hsr⟩; obtain ⟨A', c', rfl, hso⟩ := hsr rfl; have hk := HK.out.srMade HML.out hb hso; clear hb hso hsr; clear HK; have HK := Lib.hid hk; clear hk)
          | (go_at_call 84; (with_reducible refine (hnx _ (HD.out.below HK.out.mf.bel)).mono ?_); rintro e u ⟨rfl, hb⟩; have hk := HK.out.call hb; clear hb; clear HK; have HK := Lib.hid hk; clear hk))
        refine Draws.start (S := fun u => Kg w (fun _ => False) [Th.cel bp 24 p.cells] [Th.sr A' n ((pfs qs).map spanP)] u) (n := 8) 8 rfl (by kernel_rfl) ?_
        have HS := Lib.hid (show (fun u => Kg w (fun _ => False) [Th.cel bp 24 p.cells] [Th.sr A' n ((pfs qs).map spanP)] u) (World.drew _) from HK.out.drew)
        refine Draws.take 0 HS.out rfl (by kernel_rfl) (fun _ _ _ h => h) (yield_kr Tryz.underlying24 rfl p_info (fun _ h => (h.celAt 0 rfl).range Pl.all) _ rfl rfl rfl) ?_
        (try simp only [Act.put, lsA, lsB, lsC])
        refine Draws.take 1 (v := ?v1) HS.out rfl (by kernel_rfl) (fun _ _ _ h => h) (Or.inl ⟨rfl, ?h1⟩) ?r1
        case h1 => intro w' hw'; go_simp; (try with_reducible rfl)
        (try simp only [Act.put, lsA, lsB, lsC])
        refine Draws.take 3 (v := ?v2) HS.out rfl (by kernel_rfl) (fun _ _ _ h => h) (Or.inl ⟨rfl, ?h2⟩) ?r2
        case h2 => intro w' hw'; go_simp; (try with_reducible rfl)
        (try simp only [Act.put, lsA, lsB, lsC])
        refine Draws.take 4 HS.out rfl (by kernel_rfl) (fun _ _ _ h => h) (yield_k ckI (fun _ h => (h.celAt 0 rfl).cell Pl.c0) _ rfl rfl rfl) ?_
        (try simp only [Act.put, lsA, lsB, lsC])
        refine Draws.does 2 rfl (by kernel_rfl) rfl (fun K' hK => ?_)
        go_simp
        go_at_call 85
        refine (makings_any p _ _ _ _ _ _ HN4.out (HS.out.sr 0 rfl) H0.out).mono ?_
        rintro e u ⟨bm, qp, qsp, qo, qf, rfl, hm⟩
        (try dsimp only)
        have hk := HS.out.call hm.bel
        obtain ⟨kf, cap, hv, hent, hcl⟩ := mk_ent p HKK.out HA.out HBB.out HN4.out.2 (HS.out.sr 0 rfl) H0.out HBD.out hm
        have HM := Lib.hid hm.map; have HV := Lib.hid hv; have HENT := Lib.hid hent; have HCL := Lib.hid hcl
        clear hm hv hent hcl
        clear HS; have HS := Lib.hid (show (fun u => Kg w (fun _ => False) [Th.cel bp 24 p.cells] [Th.sr A' n ((pfs qs).map spanP)] u) _ from hk); clear hk
        refine hK.out _ _ (fun _ => HS.out) ?_
        clear hK K'
        (try simp only [Act.put, lsA, lsB, lsC])
        refine Draws.does 5 rfl (by kernel_rfl) rfl (fun K' hK => ?_)
        refine wp_atM HM.out HOK.out HV.out _ _ rfl rfl rfl ?_
        refine hK.out _ _ (fun _ => HS.out) ?_
        clear hK K'
        (try simp only [Act.put, lsA, lsB, lsC])
        refine Draws.does 6 rfl (by kernel_rfl) rfl (fun K' hK => ?_)
        go_simp
        rw [HENT.out, Oper.upon_enter]
        refine HCL.out.mono ?_
        rintro e u ⟨v, rfl, ho⟩
        (try dsimp only)
        rw [HDS.out] at ho
        obtain ⟨Ad, cd, rfl, hk⟩ := HS.out.drMade ho
        clear HK; have HK := Lib.hid hk; clear hk ho HM HV HENT HCL
        clear HS; have HS := Lib.hid (show (fun u => Kg w (fun _ => False) [Th.cel bp 24 p.cells] [Th.sr A' n ((pfs qs).map spanP)] u) _ from HK.out.sub (by simp))
        refine hK.out _ _ (fun _ => HS.out) ?_
        clear hK K'
        (try simp only [Act.put, lsA, lsB, lsC])
        refine Draws.take 7 (v := ?v3) HS.out rfl (by kernel_rfl) (fun _ _ _ h => h) (Or.inl ⟨rfl, ?h3⟩) ?r3
        case h3 => intro w' hw'; go_simp; (try with_reducible rfl)
        (try simp only [Act.put, lsA, lsB, lsC])
        refine Draws.done (by kernel_rfl) ?_
        go_wp2_with (first
          | (go_at_call 86; (with_reducible refine (con_great _ _ _ _ HND.out _ (HK.out.dr 0 rfl)).mono ?_); rintro e u ⟨rfl, hb⟩; have hk := HK.out.call hb; clear hb; clear HK; have HK := Lib.hid hk; clear hk; rw [HG.out])
          | (go_at_call 86; (with_reducible refine (con_beyond _ _ _ _ HND.out _ (HK.out.dr 0 rfl)).mono ?_); rintro e u ⟨rfl, hb⟩; have hk := HK.out.call hb; clear hb; clear HK; have HK := Lib.hid hk; clear hk; rw [HY.out]))
        go_ret2
        exact ⟨_, [], by rw [HT.out]; rfl, OF.none HK.out.mf.bel, by rw [HU.out]; rfl⟩
      | false =>
        have HG := Lib.hid hg
        cases hy : ds.any beyondB with
        | true =>
          have HY := Lib.hid hy
          have HT := Lib.hid (show mkE (pfs qs) p = 14 by rw [mkE, if_neg (fun h => h HZ.out), if_neg (fun h => h HZ2.out), HDS.out, if_neg (by rw [hg]; simp), if_pos hy])
          have HU := Lib.hid (show mkL (pfs qs) p = [] by rw [mkL, if_neg (by rw [HT.out]; decide)])
          clear hg hy
          go_enter Tryz.func50, Tryz.ntmps50
          go_wp2_with (first
            | ((with_reducible refine box_k (cs := p.cells) HK.out rfl _ rfl rfl ?_); intro bp u hk; clear HK; have HK := Lib.hid hk; clear hk)
            | (go_at_call 83; (with_reducible refine (hsp _ (HD.out.below HK.out.mf.bel)).mono ?_); rintro e u ⟨v, rfl, hb, hsr⟩; obtain ⟨A', c', rfl, hso⟩ := hsr rfl; have hk := HK.out.srMade HML.out hb hso; clear hb hso hsr; clear HK; have HK := Lib.hid hk; clear hk)
            | (go_at_call 84; (with_reducible refine (hnx _ (HD.out.below HK.out.mf.bel)).mono ?_); rintro e u ⟨rfl, hb⟩; have hk := HK.out.call hb; clear hb; clear HK; have HK := Lib.hid hk; clear hk))
          refine Draws.start (S := fun u => Kg w (fun _ => False) [Th.cel bp 24 p.cells] [Th.sr A' n ((pfs qs).map spanP)] u) (n := 8) 8 rfl (by kernel_rfl) ?_
          have HS := Lib.hid (show (fun u => Kg w (fun _ => False) [Th.cel bp 24 p.cells] [Th.sr A' n ((pfs qs).map spanP)] u) (World.drew _) from HK.out.drew)
          refine Draws.take 0 HS.out rfl (by kernel_rfl) (fun _ _ _ h => h) (yield_kr Tryz.underlying24 rfl p_info (fun _ h => (h.celAt 0 rfl).range Pl.all) _ rfl rfl rfl) ?_
          (try simp only [Act.put, lsA, lsB, lsC])
          refine Draws.take 1 (v := ?v4) HS.out rfl (by kernel_rfl) (fun _ _ _ h => h) (Or.inl ⟨rfl, ?h4⟩) ?r4
          case h4 => intro w' hw'; go_simp; (try with_reducible rfl)
          (try simp only [Act.put, lsA, lsB, lsC])
          refine Draws.take 3 (v := ?v5) HS.out rfl (by kernel_rfl) (fun _ _ _ h => h) (Or.inl ⟨rfl, ?h5⟩) ?r5
          case h5 => intro w' hw'; go_simp; (try with_reducible rfl)
          (try simp only [Act.put, lsA, lsB, lsC])
          refine Draws.take 4 HS.out rfl (by kernel_rfl) (fun _ _ _ h => h) (yield_k ckI (fun _ h => (h.celAt 0 rfl).cell Pl.c0) _ rfl rfl rfl) ?_
          (try simp only [Act.put, lsA, lsB, lsC])
          refine Draws.does 2 rfl (by kernel_rfl) rfl (fun K' hK => ?_)
          go_simp
          go_at_call 85
          refine (makings_any p _ _ _ _ _ _ HN4.out (HS.out.sr 0 rfl) H0.out).mono ?_
          rintro e u ⟨bm, qp, qsp, qo, qf, rfl, hm⟩
          (try dsimp only)
          have hk := HS.out.call hm.bel
          obtain ⟨kf, cap, hv, hent, hcl⟩ := mk_ent p HKK.out HA.out HBB.out HN4.out.2 (HS.out.sr 0 rfl) H0.out HBD.out hm
          have HM := Lib.hid hm.map; have HV := Lib.hid hv; have HENT := Lib.hid hent; have HCL := Lib.hid hcl
          clear hm hv hent hcl
          clear HS; have HS := Lib.hid (show (fun u => Kg w (fun _ => False) [Th.cel bp 24 p.cells] [Th.sr A' n ((pfs qs).map spanP)] u) _ from hk); clear hk
          refine hK.out _ _ (fun _ => HS.out) ?_
          clear hK K'
          (try simp only [Act.put, lsA, lsB, lsC])
          refine Draws.does 5 rfl (by kernel_rfl) rfl (fun K' hK => ?_)
          refine wp_atM HM.out HOK.out HV.out _ _ rfl rfl rfl ?_
          refine hK.out _ _ (fun _ => HS.out) ?_
          clear hK K'
          (try simp only [Act.put, lsA, lsB, lsC])
          refine Draws.does 6 rfl (by kernel_rfl) rfl (fun K' hK => ?_)
          go_simp
          rw [HENT.out, Oper.upon_enter]
          refine HCL.out.mono ?_
          rintro e u ⟨v, rfl, ho⟩
          (try dsimp only)
          rw [HDS.out] at ho
          obtain ⟨Ad, cd, rfl, hk⟩ := HS.out.drMade ho
          clear HK; have HK := Lib.hid hk; clear hk ho HM HV HENT HCL
          clear HS; have HS := Lib.hid (show (fun u => Kg w (fun _ => False) [Th.cel bp 24 p.cells] [Th.sr A' n ((pfs qs).map spanP)] u) _ from HK.out.sub (by simp))
          refine hK.out _ _ (fun _ => HS.out) ?_
          clear hK K'
          (try simp only [Act.put, lsA, lsB, lsC])
          refine Draws.take 7 (v := ?v6) HS.out rfl (by kernel_rfl) (fun _ _ _ h => h) (Or.inl ⟨rfl, ?h6⟩) ?r6
          case h6 => intro w' hw'; go_simp; (try with_reducible rfl)
          (try simp only [Act.put, lsA, lsB, lsC])
          refine Draws.done (by kernel_rfl) ?_
          go_wp2_with (first
            | (go_at_call 86; (with_reducible refine (con_great _ _ _ _ HND.out _ (HK.out.dr 0 rfl)).mono ?_); rintro e u ⟨rfl, hb⟩; have hk := HK.out.call hb; clear hb; clear HK; have HK := Lib.hid hk; clear hk; rw [HG.out])
            | (go_at_call 86; (with_reducible refine (con_beyond _ _ _ _ HND.out _ (HK.out.dr 0 rfl)).mono ?_); rintro e u ⟨rfl, hb⟩; have hk := HK.out.call hb; clear hb; clear HK; have HK := Lib.hid hk; clear hk; rw [HY.out]))
          go_ret2
          exact ⟨_, [], by rw [HT.out]; rfl, OF.none HK.out.mf.bel, by rw [HU.out]; rfl⟩
        | false =>
          have HY := Lib.hid hy
          have HT := Lib.hid (show mkE (pfs qs) p = 0 by rw [mkE, if_neg (fun h => h HZ.out), if_neg (fun h => h HZ2.out), HDS.out, if_neg (by rw [hg]; simp), if_neg (by rw [hy]; simp)])
          have HU := Lib.hid (show mkL (pfs qs) p = ds.map fun d => bldP d ep by rw [mkL, if_pos HT.out, HDS.out, HEP.out])
          clear hg hy
          go_enter Tryz.func50, Tryz.ntmps50
          go_wp2_with (first
            | ((with_reducible refine box_k (cs := p.cells) HK.out rfl _ rfl rfl ?_); intro bp u hk; clear HK; have HK := Lib.hid hk; clear hk)
            | (go_at_call 83; (with_reducible refine (hsp _ (HD.out.below HK.out.mf.bel)).mono ?_); rintro e u ⟨v, rfl, hb, hsr⟩; obtain ⟨A', c', rfl, hso⟩ := hsr rfl; have hk := HK.out.srMade HML.out hb hso; clear hb hso hsr; clear HK; have HK := Lib.hid hk; clear hk)
            | (go_at_call 84; (with_reducible refine (hnx _ (HD.out.below HK.out.mf.bel)).mono ?_); rintro e u ⟨rfl, hb⟩; have hk := HK.out.call hb; clear hb; clear HK; have HK := Lib.hid hk; clear hk))
          refine Draws.start (S := fun u => Kg w (fun _ => False) [Th.cel bp 24 p.cells] [Th.sr A' n ((pfs qs).map spanP)] u) (n := 8) 8 rfl (by kernel_rfl) ?_
          have HS := Lib.hid (show (fun u => Kg w (fun _ => False) [Th.cel bp 24 p.cells] [Th.sr A' n ((pfs qs).map spanP)] u) (World.drew _) from HK.out.drew)
          refine Draws.take 0 HS.out rfl (by kernel_rfl) (fun _ _ _ h => h) (yield_kr Tryz.underlying24 rfl p_info (fun _ h => (h.celAt 0 rfl).range Pl.all) _ rfl rfl rfl) ?_
          (try simp only [Act.put, lsA, lsB, lsC])
          refine Draws.take 1 (v := ?v7) HS.out rfl (by kernel_rfl) (fun _ _ _ h => h) (Or.inl ⟨rfl, ?h7⟩) ?r7
          case h7 => intro w' hw'; go_simp; (try with_reducible rfl)
          (try simp only [Act.put, lsA, lsB, lsC])
          refine Draws.take 3 (v := ?v8) HS.out rfl (by kernel_rfl) (fun _ _ _ h => h) (Or.inl ⟨rfl, ?h8⟩) ?r8
          case h8 => intro w' hw'; go_simp; (try with_reducible rfl)
          (try simp only [Act.put, lsA, lsB, lsC])
          refine Draws.take 4 HS.out rfl (by kernel_rfl) (fun _ _ _ h => h) (yield_k ckI (fun _ h => (h.celAt 0 rfl).cell Pl.c0) _ rfl rfl rfl) ?_
          (try simp only [Act.put, lsA, lsB, lsC])
          refine Draws.does 2 rfl (by kernel_rfl) rfl (fun K' hK => ?_)
          go_simp
          go_at_call 85
          refine (makings_any p _ _ _ _ _ _ HN4.out (HS.out.sr 0 rfl) H0.out).mono ?_
          rintro e u ⟨bm, qp, qsp, qo, qf, rfl, hm⟩
          (try dsimp only)
          have hk := HS.out.call hm.bel
          obtain ⟨kf, cap, hv, hent, hcl⟩ := mk_ent p HKK.out HA.out HBB.out HN4.out.2 (HS.out.sr 0 rfl) H0.out HBD.out hm
          have HM := Lib.hid hm.map; have HV := Lib.hid hv; have HENT := Lib.hid hent; have HCL := Lib.hid hcl
          clear hm hv hent hcl
          clear HS; have HS := Lib.hid (show (fun u => Kg w (fun _ => False) [Th.cel bp 24 p.cells] [Th.sr A' n ((pfs qs).map spanP)] u) _ from hk); clear hk
          refine hK.out _ _ (fun _ => HS.out) ?_
          clear hK K'
          (try simp only [Act.put, lsA, lsB, lsC])
          refine Draws.does 5 rfl (by kernel_rfl) rfl (fun K' hK => ?_)
          refine wp_atM HM.out HOK.out HV.out _ _ rfl rfl rfl ?_
          refine hK.out _ _ (fun _ => HS.out) ?_
          clear hK K'
          (try simp only [Act.put, lsA, lsB, lsC])
          refine Draws.does 6 rfl (by kernel_rfl) rfl (fun K' hK => ?_)
          go_simp
          rw [HENT.out, Oper.upon_enter]
          refine HCL.out.mono ?_
          rintro e u ⟨v, rfl, ho⟩
          (try dsimp only)
          rw [HDS.out] at ho
          obtain ⟨Ad, cd, rfl, hk⟩ := HS.out.drMade ho
          clear HK; have HK := Lib.hid hk; clear hk ho HM HV HENT HCL
          clear HS; have HS := Lib.hid (show (fun u => Kg w (fun _ => False) [Th.cel bp 24 p.cells] [Th.sr A' n ((pfs qs).map spanP)] u) _ from HK.out.sub (by simp))
          refine hK.out _ _ (fun _ => HS.out) ?_
          clear hK K'
          (try simp only [Act.put, lsA, lsB, lsC])
          refine Draws.take 7 (v := ?v9) HS.out rfl (by kernel_rfl) (fun _ _ _ h => h) (Or.inl ⟨rfl, ?h9⟩) ?r9
          case h9 => intro w' hw'; go_simp; (try with_reducible rfl)
          (try simp only [Act.put, lsA, lsB, lsC])
          refine Draws.done (by kernel_rfl) ?_
          go_wp2_with (first
            | (go_at_call 86; (with_reducible refine (con_great _ _ _ _ HND.out _ (HK.out.dr 0 rfl)).mono ?_); rintro e u ⟨rfl, hb⟩; have hk := HK.out.call hb; clear hb; clear HK; have HK := Lib.hid hk; clear hk; rw [HG.out])
            | (go_at_call 86; (with_reducible refine (con_beyond _ _ _ _ HND.out _ (HK.out.dr 0 rfl)).mono ?_); rintro e u ⟨rfl, hb⟩; have hk := HK.out.call hb; clear hb; clear HK; have HK := Lib.hid hk; clear hk; rw [HY.out])
            | ((with_reducible refine make_kf HK.out ds.length HND.out rfl _ _ rfl rfl rfl ?_); intro bl u hk; clear HK; have HK := Lib.hid hk; clear hk))
          go_loopw [45] (fun i wr => ∃ m : Nat, m ≤ ds.length ∧ i = .int .i64 m ∧ Kg w (fun _ => False) [Th.cel bl 43 (fcs (frow ds ep ds.length m))] [Th.dr Ad ds.length ds] wr) (fun i _ => ds.length - (intOf i).toNat)
          case atStart => exact ⟨0, by omega, rfl, by rw [frow_0]; exact HK.out.swap.tail.sub (by simp)⟩
          case round =>
            obtain ⟨m, hm, rfl, hk⟩ := hrel
            clear HK; have HK := Lib.hid hk; clear hk
            by_cases hlt : m < ds.length
            · obtain ⟨d, hx⟩ := (HK.out.dr 0 rfl).get hlt
              obtain ⟨b, off, rfl, hr⟩ := (HK.out.dr 0 rfl).base (by omega)
              have HM := Lib.hid hlt
              have HX := Lib.hid hx
              have hbl := build_any d (HSZ.out d (List.mem_of_getElem? hx)) ep
              have HB := Lib.hid (bldP_full d ep)
              have HL1 := Lib.hid (frow_le (ep := ep) (n := ds.length) rfl hlt d)
              have HP1 := Lib.hid (frow_put (ep := ep) (n := ds.length) rfl hx hlt)
              generalize bldP d ep = R at hbl HB HL1 HP1
              have i1 : (0 : Int) ≤ (m : Int) := by omega
              have i2 : (m : Int) < (ds.length : Int) := by omega
              have i3 : ds.length ≤ 1000 := HND.out
              clear hr hx
              go_wp2_with (first
                | (with_reducible refine load_kg Tryz.underlying114 rfl dr_info _ rfl (DS.rng (HK.out.dr 0 rfl) HX.out HM.out) rfl rfl ?_)
                | ((with_reducible refine alloc_k HK.out dr_zero rfl rfl ?_); intro b12 u hk; clear HK; have HK := Lib.hid hk; clear hk)
                | ((with_reducible refine store_kr HK.out 0 dr_info Dr.one rfl rfl _ _ rfl rfl rfl rfl Dr.le Dr.put ?_); intro u hk; simp only [List.set_cons_zero] at hk; clear HK; have HK := Lib.hid hk; clear hk)
                | (with_reducible refine load_kr HK.out 0 Tryz.underlying114 rfl dr_info _ rfl rfl rfl rfl Dr.all ?_)
                | (go_at_call 89; (with_reducible refine (hbl _).mono ?_); rintro e u ⟨rfl, hb⟩; have hk := HK.out.call hb; clear hb; clear HK; have HK := Lib.hid hk; clear hk)
                | ((refine store_kr HK.out 1 (Pf.infoF HB.out) (Fd.one _) rfl rfl _ _ rfl rfl rfl rfl HL1.out HP1.out ?_); intro u hk; simp only [List.set_cons_zero, List.set_cons_succ] at hk; clear HK; have HK := Lib.hid hk; clear hk))
              go_roundw
              case rel => exact ⟨m + 1, by have := HM.out; omega, by go_num, HK.out.tail⟩
              case measure => have := HM.out; simp [intOf]; omega
            · obtain ⟨nd, hnd⟩ : ∃ nd, ds.length = nd := ⟨_, rfl⟩
              have hme : m = nd := by omega
              have HOFB := Lib.hid (OF.built (n := ds.length) (qs := frow ds ep ds.length m) HK.out (frow_len rfl hm) HND.out (frow_full _ _ _ _) (fun x hx => by
                rw [hme, ← hnd, frow_all rfl] at hx
                obtain ⟨d, _, rfl⟩ := List.mem_map.1 hx
                exact bldP_hs d ep))
              have HFA := Lib.hid (show pfs (frow ds ep ds.length m) = ds.map fun d => bldP d ep by
                rw [hme, ← hnd, frow_all rfl]; simp)
              have i3 : ¬ m < ds.length := hlt
              clear hnd hme
              go_wp2
              go_ret2
              exact ⟨_, _, by rw [HT.out]; rfl, HOFB.out, by rw [HU.out]; exact HFA.out⟩
    · have HZ2 := Lib.hid h2
      obtain ⟨E, hE⟩ : ∃ E, addE (epP (pfs qs)) 1 = E := ⟨_, rfl⟩
      rw [hE] at hnx h2
      have d0 : (E != 0) = true := by simpa using h2
      have HT := Lib.hid (show mkE (pfs qs) p = E by simp [mkE, h1, hE, h2])
      have HU := Lib.hid (show mkL (pfs qs) p = [] by rw [mkL, if_neg (by rw [HT.out]; exact h2)])
      obtain ⟨N, hN⟩ : ∃ N, addN (epP (pfs qs)) 1 = N := ⟨_, rfl⟩
      rw [hN] at hnx
      clear h1 h2 hE hN
      go_enter Tryz.func50, Tryz.ntmps50
      go_wp2_with (first
        | ((with_reducible refine box_k (cs := p.cells) HK.out rfl _ rfl rfl ?_); intro bp u hk; clear HK; have HK := Lib.hid hk; clear hk)
        | (go_at_call 83; (with_reducible refine (hsp _ (HD.out.below HK.out.mf.bel)).mono ?_); rintro e u ⟨v, rfl, hb, hsr⟩; obtain ⟨A', c', rfl, hso⟩ := hsr rfl; have hk := HK.out.srMade HML.out hb hso; clear hb hso hsr; clear HK; have HK := Lib.hid hk; clear hk)
        | (go_at_call 84; (with_reducible refine (hnx _ (HD.out.below HK.out.mf.bel)).mono ?_); rintro e u ⟨rfl, hb⟩; have hk := HK.out.call hb; clear hb; clear HK; have HK := Lib.hid hk; clear hk))
      go_ret2
      exact ⟨_, [], by rw [HT.out]; rfl, OF.none HK.out.mf.bel, by rw [HU.out]; rfl⟩
  · obtain ⟨E, hE⟩ : ∃ E, errP (pfs qs) = E := ⟨_, rfl⟩
    rw [hE] at hsp h1
    have d0 : (E != 0) = true := by simpa using h1
    have HT := Lib.hid (show mkE (pfs qs) p = E by simp [mkE, hE, h1])
    have HU := Lib.hid (show mkL (pfs qs) p = [] by rw [mkL, if_neg (by rw [HT.out]; exact h1)])
    clear h1 hE
    go_enter Tryz.func50, Tryz.ntmps50
    go_wp2_with (first
      | ((with_reducible refine box_k (cs := p.cells) HK.out rfl _ rfl rfl ?_); intro bp u hk; clear HK; have HK := Lib.hid hk; clear hk)
      | (go_at_call 83; (with_reducible refine (hsp _ (HD.out.below HK.out.mf.bel)).mono ?_); rintro e u ⟨v, rfl, hb, hsr⟩; have hk := HK.out.call hb; clear hb hsr; clear HK; have HK := Lib.hid hk; clear hk)
      | (go_at_call 84; (with_reducible refine (hnx _ (HD.out.below HK.out.mf.bel)).mono ?_); rintro e u ⟨rfl, hb⟩; have hk := HK.out.call hb; clear hb; clear HK; have HK := Lib.hid hk; clear hk))
    go_ret2
    exact ⟨_, [], by rw [HT.out]; rfl, OF.none HK.out.mf.bel, by rw [HU.out]; rfl⟩

end Go.Proofs.YtgblnlpfgdbnnaaGreat
