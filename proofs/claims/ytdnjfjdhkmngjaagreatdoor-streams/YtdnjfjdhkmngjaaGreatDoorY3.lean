import Derived.Test.YtdnjfjdhkmngjaaGreatDoorY2
import Derived.Test.YtdnjfjdhkmngjaaGreatDoorX
import Derived.BigQuiet
import Derived.Deep.QuietTactic
namespace Go.Proofs.YtdnjfjdhkmngjaaGreatDoor
open Go.RowKit

set_option maxRecDepth 100000 in
set_option maxHeartbeats 4000000 in
theorem told_read (W0 w : World) (bw L : Nat) (vl vnm : Value) (ps : List PS) (ns : List Value) {S : Snd} (hW : Wis W0 w bw S L vl vnm ps ns) (p : PS) (hp : p ∈ ps) (o : OpV) (ho : o.Ok) (hk : o.kind = 3) :
    Calls Tryz.prog 43 #[.pointer (some ⟨bw, 0, none⟩), .agg #[.pointer (some ⟨p.b, 0, none⟩), .pointer (some ⟨p.a, 0, none⟩)], .agg o.cells] w fun e w' => e = .returned (.bool true) ∧ Kept nothing w w' := by
  have HW : Hid (Wis W0 w bw S L vl vnm ps ns) := hW
  have HO : Hid (p.Ok w W0.heap.size L) := hW.ok p hp
  have Ho : Hid o.Ok := ho
  obtain ⟨kind, on, oa, ob, os, ot, ou⟩ := o
  simp only at hk
  subst hk
  simp only [OpV.cells]
  clear hW hp ho
  go_enter Tryz.func43, Tryz.ntmps43
  go_wp2_with fail
  have hkW := ((Kept.refl nothing w).alloc (.cells #[.pointer (some ⟨p.b, 0, none⟩), .pointer (some ⟨p.a, 0, none⟩)] 96)).alloc (.cells #[.int .i64 3, .int .i64 on, .int .i64 oa, .int .i64 ob, .string os, .string ot, .string ou] 56)
  have hx0 := alloc_at1 w (.cells #[.pointer (some ⟨p.b, 0, none⟩), .pointer (some ⟨p.a, 0, none⟩)] 96 (0, 0)) (.cells #[.int .i64 3, .int .i64 on, .int .i64 oa, .int .i64 ob, .string os, .string ot, .string ou] 56 (0, 0))
  have hx1 := alloc_at2 w (.cells #[.pointer (some ⟨p.b, 0, none⟩), .pointer (some ⟨p.a, 0, none⟩)] 96 (0, 0)) (.cells #[.int .i64 3, .int .i64 on, .int .i64 oa, .int .i64 ob, .string os, .string ot, .string ou] 56 (0, 0))
  refine (pRead_any p.b os oa _ p.ι p.R p.vn p.pvs p.psv (HO.out.prog.keptN hkW) HO.out.good Ho.out.s1 Ho.out.a1 Ho.out.a2).mono ?_
  rintro e w1 ⟨err, rfl, herr, hk1⟩
  have hy0 := hk1.get hx0 (fun h => h)
  have hy1 := hk1.get hx1 (fun h => h)
  have c01 : w1.cell? ⟨w.heap.size, 1, none⟩ = some (.pointer (some ⟨p.a, 0, none⟩)) := blk_cell hy0 1 rfl
  have c12 : w1.cell? ⟨w.heap.size + 1, 2, none⟩ = some (.int .i64 oa) := blk_cell hy1 2 rfl
  have c14 : w1.cell? ⟨w.heap.size + 1, 4, none⟩ = some (.string os) := blk_cell hy1 4 rfl
  have hk01 := hkW.trans hk1
  have Herr : Hid (ErrRep w1 err (readF p.R os oa).2) := herr
  have HR1 : Hid (RRep w1 p.a p.R p.vb p.rvs p.rsv) := HO.out.ref.kept hk01 (fun h => h) (fun _ _ h => h) (fun _ _ _ h => h)
  clear hx0 hx1 hy0 hy1 herr
  go_wp2_with fail
  refine (rRead_any p.a os oa w1 p.R p.vb p.rvs p.rsv HR1.out Ho.out.s1 Ho.out.a1 Ho.out.a2).mono ?_
  rintro e w2 ⟨rfl, rfl⟩
  have hcn := (codes_no p.R os os oa).1
  have hxx : ((readF p.R os oa).1.toList == (readF p.R os oa).1.toList) = true := by simp
  generalize (readF p.R os oa).2 = code at Herr hcn
  generalize (readF p.R os oa).1 = txt at hxx
  go_wp2_with fail
  refine (says_any err code w2 (HW.out.keptN hk01).globals Herr.out hcn.1 hcn.2).mono ?_
  rintro e w3 ⟨rfl, hk3⟩
  go_wp2
  go_ret
  exact ⟨rfl, hk01.trans hk3⟩

set_option maxRecDepth 100000 in
set_option maxHeartbeats 4000000 in
theorem told_used (W0 w : World) (bw L : Nat) (vl vnm : Value) (ps : List PS) (ns : List Value) {S : Snd} (hW : Wis W0 w bw S L vl vnm ps ns) (hL : L ≤ 1759218604400) (p : PS) (hp : p ∈ ps) (o : OpV) (hk : o.kind = 6) :
    Calls Tryz.prog 43 #[.pointer (some ⟨bw, 0, none⟩), .agg #[.pointer (some ⟨p.b, 0, none⟩), .pointer (some ⟨p.a, 0, none⟩)], .agg o.cells] w fun e w' => e = .returned (.bool true) ∧ Kept nothing w w' := by
  have HO : Hid (p.Ok w W0.heap.size L) := hW.ok p hp
  have hlast := HO.out.last
  obtain ⟨kind, on, oa, ob, os, ot, ou⟩ := o
  simp only at hk
  subst hk
  simp only [OpV.cells]
  clear hW hp
  go_enter Tryz.func43, Tryz.ntmps43
  go_wp2_with fail
  have hkW := ((Kept.refl nothing w).alloc (.cells #[.pointer (some ⟨p.b, 0, none⟩), .pointer (some ⟨p.a, 0, none⟩)] 96)).alloc (.cells #[.int .i64 6, .int .i64 on, .int .i64 oa, .int .i64 ob, .string os, .string ot, .string ou] 56)
  have hx0 := alloc_at1 w (.cells #[.pointer (some ⟨p.b, 0, none⟩), .pointer (some ⟨p.a, 0, none⟩)] 96 (0, 0)) (.cells #[.int .i64 6, .int .i64 on, .int .i64 oa, .int .i64 ob, .string os, .string ot, .string ou] 56 (0, 0))
  refine (pUsed_any _ p.b p.ι p.R p.vn p.pvs p.psv (HO.out.prog.keptN hkW) HO.out.good).mono ?_
  rintro e w1 ⟨rfl, hk1⟩
  have hy0 := hk1.get hx0 (fun h => h)
  have c01 : w1.cell? ⟨w.heap.size, 1, none⟩ = some (.pointer (some ⟨p.a, 0, none⟩)) := blk_cell hy0 1 rfl
  have hk01 := hkW.trans hk1
  have HR1 : Hid (RRep w1 p.a p.R p.vb p.rvs p.rsv) := HO.out.ref.kept hk01 (fun h => h) (fun _ _ h => h) (fun _ _ _ h => h)
  clear hx0 hy0
  go_wp2_with fail
  refine (rUsed_any p.a w1 p.R p.vb p.rvs p.rsv HR1.out HO.out.good (by omega)).mono ?_
  rintro e w2 ⟨rfl, hk2⟩
  have hxx : ((usedF p.R p.R.blocks : Int) == (usedF p.R p.R.blocks : Int)) = true := by simp
  generalize usedF p.R p.R.blocks = u at hxx
  go_wp2
  go_ret
  exact ⟨rfl, hk01.trans hk2⟩

theorem names_same {p : PS} {w : World} {B L : Nat} (h : p.Ok w B L) : p.psv.length = p.rsv.length ∧ ∀ (k : Nat) (h1 : k < p.psv.length) (h2 : k < p.rsv.length), p.psv[k].1 = p.rsv[k].1 := by
  have he : p.psv.map SV.out = p.rsv.map SV.out := by rw [← h.prog.out, h.ref.out]
  have hl := congrArg List.length he
  simp only [List.length_map] at hl
  refine ⟨hl, fun k h1 h2 => ?_⟩
  have := congrArg (fun l => l[k]?) he
  simp only [List.getElem?_map, List.getElem?_eq_getElem h1, List.getElem?_eq_getElem h2, Option.map_some, Option.some.injEq, SV.out, Prod.mk.injEq] at this
  exact this.1

set_option maxRecDepth 100000 in
set_option maxHeartbeats 4000000 in
theorem told_list (W0 w : World) (bw L : Nat) (vl vnm : Value) (ps : List PS) (ns : List Value) {S : Snd} (hW : Wis W0 w bw S L vl vnm ps ns) (hN : ns.length ≤ 7036874417600) (p : PS) (hp : p ∈ ps) (o : OpV) (hk : o.kind = 7) :
    Calls Tryz.prog 43 #[.pointer (some ⟨bw, 0, none⟩), .agg #[.pointer (some ⟨p.b, 0, none⟩), .pointer (some ⟨p.a, 0, none⟩)], .agg o.cells] w fun e w' => e = .returned (.bool true) ∧ ∃ vnm' ns', Wis W0 w' bw S L vl vnm' ps ns' ∧ ns'.length = ns.length + 4 := by
  have HW : Hid (Wis W0 w bw S L vl vnm ps ns) := hW
  have HO : Hid (p.Ok w W0.heap.size L) := hW.ok p hp
  obtain ⟨kind, on, oa, ob, os, ot, ou⟩ := o
  simp only at hk
  subst hk
  simp only [OpV.cells]
  obtain ⟨hlen, hsame⟩ := names_same HO.out
  have Hsame : Hid (∀ (k : Nat) (h1 : k < p.psv.length) (h2 : k < p.rsv.length), p.psv[k].1 = p.rsv[k].1) := hsame
  have h6 : p.psv.length ≤ 6 := by have := HO.out.good.snaps; rw [HO.out.prog.out] at this; simpa using this
  have Hlen : Hid (p.psv.length = p.rsv.length) := hlen
  clear hW hp hsame hlen
  go_enter Tryz.func43, Tryz.ntmps43
  go_wp2_with fail
  have hkW := ((Kept.refl nothing w).alloc (.cells #[.pointer (some ⟨p.b, 0, none⟩), .pointer (some ⟨p.a, 0, none⟩)] 96)).alloc (.cells #[.int .i64 7, .int .i64 on, .int .i64 oa, .int .i64 ob, .string os, .string ot, .string ou] 56)
  have hx0 := alloc_at1 w (.cells #[.pointer (some ⟨p.b, 0, none⟩), .pointer (some ⟨p.a, 0, none⟩)] 96 (0, 0)) (.cells #[.int .i64 7, .int .i64 on, .int .i64 oa, .int .i64 ob, .string os, .string ot, .string ou] 56 (0, 0))
  have hPW := HO.out.prog.keptN hkW
  refine (pList_any _ p.b p.pvs p.psv hPW.c2 hPW.snaps (fun t ht => tab_slice (hPW.each t ht)) h6).mono ?_
  rintro e w1 ⟨v, rfl, hv, hk1⟩
  have hy0 := hk1.get hx0 (fun h => h)
  have c01 : w1.cell? ⟨w.heap.size, 1, none⟩ = some (.pointer (some ⟨p.a, 0, none⟩)) := blk_cell hy0 1 rfl
  have hlx : w.heap.size < w1.heap.size := blk_lt hy0
  have hk01 := hkW.trans hk1
  have HR1 : Hid (RRep w1 p.a p.R p.vb p.rvs p.rsv) := HO.out.ref.kept hk01 (fun h => h) (fun _ _ h => h) (fun _ _ _ h => h)
  have hv' : w1.ownsRow w.heap.size 9 1 v p.psv.length (p.psv.map fun t => .string t.1) := owns_mono_base hv (by simp; omega)
  have Hv : Hid (w1.ownsRow w.heap.size 9 1 v p.psv.length (p.psv.map fun t => .string t.1)) := hv'
  obtain ⟨la, lcap, hvl, hln, hlm, hlc⟩ := owns_open (owns_weaken hv')
  subst hvl
  obtain ⟨ra, rcap, hvr, hrn, hrm, hrc⟩ := owns_open HR1.out.snaps
  have hra2 : w1.cell? ⟨p.a, 2, none⟩ = some (.slice ra p.psv.length rcap) := by rw [HR1.out.c2, hvr, Hlen.out]
  have halt := HR1.out.lt
  have Hlc : Hid (0 < p.psv.length → ∃ g, la = some ⟨g, 0, none⟩ ∧ g < w1.heap.size ∧ ∀ j u, (p.psv.map fun t => Value.string t.1)[j]? = some u → w1.cell? ⟨g, j, none⟩ = some u) := hlc
  have Hrc : Hid (0 < p.rsv.length → ∃ g, ra = some ⟨g, 0, none⟩ ∧ g < w1.heap.size ∧ ∀ j u, (scells p.rsv)[j]? = some u → w1.cell? ⟨g, j, none⟩ = some u) := hrc
  have hqq : ((p.psv.length : Int) == (p.psv.length : Int)) = true := by simp
  unfold maxLen at hlm hrm
  have hrn' : p.psv.length ≤ rcap := by rw [Hlen.out]; exact hrn
  clear hx0 hy0 hv hv' hlc hrc hvr hPW hrn
  go_wp2
  go_loopw [15, 16] (fun sm i wr => ∃ k : Nat, k ≤ p.psv.length ∧ i = .int .i64 k ∧ sm = .bool true ∧ Kept nothing w1 wr) (fun _ i _ => p.psv.length - (intOf i).toNat)
  case atStart => exact ⟨0, Nat.zero_le _, rfl, rfl, Kept.refl _ _⟩
  case round =>
    obtain ⟨k, hk, rfl, rfl, hkp⟩ := hrel
    by_cases hkl : k < p.psv.length
    · have hkr : k < p.rsv.length := by rw [← Hlen.out]; exact hkl
      obtain ⟨g, hla, hg, hcs⟩ := Hlc.out (by omega)
      subst hla
      obtain ⟨gr, hra, hgr, hcr⟩ := Hrc.out (by omega)
      subst hra
      have d0 := (hkp.cell (p := ⟨g, k, none⟩) hg (fun h => h)).trans (hcs k (.string p.psv[k].1) (by simp [hkl]))
      have hxr : p.rsv[k]? = some p.rsv[k] := by simp
      have d1 := (hkp.cell (p := ⟨gr, k * 2, none⟩) hgr (fun h => h)).trans (hcr (k * 2) _ (pairs_get (fun t : SV => .string t.1) (fun t => t.2.1) p.rsv k _ hxr).1)
      have hnm := Hsame.out k hkl hkr
      rw [← hnm] at d1
      have d2 := (hkp.cell (p := ⟨w.heap.size, 1, none⟩) hlx (fun h => h)).trans c01
      have d3 := (hkp.cell (p := ⟨p.a, 2, none⟩) halt (fun h => h)).trans hra2
      generalize p.psv[k].1 = nm at d0 d1
      have hee : (nm.toList == nm.toList) = true := by simp
      have b0 : (0 : Int) ≤ (k : Int) := by omega
      have b1 : (k : Int) < (p.psv.length : Int) := by omega
      clear hcs hcr hxr hnm
      go_wp2
      go_quiet (fail)
      go_wp2
      go_roundw
      case rel => exact ⟨k + 1, by omega, by go_num, rfl, hkp.drewN _⟩
      case measure => simp [intOf]; omega
    · have hkw := hk01.trans hkp
      have Hn : Hid (Calls Tryz.prog 68 #[.pointer (some ⟨bw, 0, none⟩), .slice la p.psv.length lcap] wr fun e w' => e = .returned (.tuple #[]) ∧ ∃ vnm' ns', Wis W0 w' bw S L vl vnm' ps ns' ∧ ns'.length = ns.length + 4) :=
        named_any W0 w wr bw L vl vnm ps ns HW.out hkw hN _ _ _ (owns_keptB Hv.out hkp (fun _ _ h => h)) h6 (fun u hu => by obtain ⟨t, _, rfl⟩ := List.mem_map.1 hu; exact ⟨_, rfl⟩)
      go_wp2_with (go_at_call 68; refine Hn.out.mono ?_; rintro e w' ⟨rfl, hres⟩)
      go_ret
      exact ⟨rfl, hres⟩
end Go.Proofs.YtdnjfjdhkmngjaaGreatDoor
