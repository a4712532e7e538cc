import Derived.Test.YtdnjfjdhkmngjaaGreatDoorY1
import Derived.Test.YtdnjfjdhkmngjaaGreatDoorD
import Derived.Test.YtdnjfjdhkmngjaaGreatDoorL
import Derived.Test.YtdnjfjdhkmngjaaGreatDoorN
import Derived.Test.YtdnjfjdhkmngjaaGreatDoorO
namespace Go.Proofs.YtdnjfjdhkmngjaaGreatDoor
open Go.RowKit

/-- One step of a script. -/
structure OpV where
  kind : Int
  on : Int
  a : Int
  b : Int
  s : ByteArray
  t : ByteArray
  u : ByteArray
def OpV.cells (o : OpV) : Array Value := #[.int .i64 o.kind, .int .i64 o.on, .int .i64 o.a, .int .i64 o.b, .string o.s, .string o.t, .string o.u]
structure OpV.Ok (o : OpV) : Prop where
  k1 : -9223372036854775808 ≤ o.kind
  k2 : o.kind ≤ 9223372036854775807
  on1 : -9223372036854775808 ≤ o.on
  on2 : o.on ≤ 9223372036854775807
  a1 : -9223372036854775808 ≤ o.a
  a2 : o.a ≤ 9223372036854775807
  s1 : o.s.size ≤ maxLen
  t1 : o.t.size ≤ maxLen
  u1 : o.u.size ≤ maxLen

theorem Touch.b (p : PS) : Touch p p.b := .inl rfl
theorem Touch.a (p : PS) : Touch p p.a := .inr (.inl rfl)

theorem rowAt_mono {w w' : World} {v v' : Value} (h : RowAt w' v v') (hs : w.heap.size ≤ w'.heap.size) : RowAt w v v' := by
  rcases h with (h | ⟨g, h, hg⟩) | h
  · exact .inl (.inl h)
  · exact .inl (.inr ⟨g, h, Nat.le_trans hs hg⟩)
  · exact .inr h

set_option maxRecDepth 100000 in
set_option maxHeartbeats 4000000 in
theorem done_write (W0 w : World) (bw L : Nat) (vl vnm : Value) (ps : List PS) (ns : List Value) {S : Snd} (hW : Wis W0 w bw S L vl vnm ps ns) (hL : L ≤ 1759218604400) (i : Nat) (p : PS) (hi : ps[i]? = some p) (o : OpV) (ho : o.Ok) (hk : o.kind = 2) :
    Calls Tryz.prog 45 #[.pointer (some ⟨bw, 0, none⟩), .agg #[.pointer (some ⟨p.b, 0, none⟩), .pointer (some ⟨p.a, 0, none⟩)], .agg o.cells] w fun e w' => e = .returned (.bool true) ∧ ∃ ps', Wis W0 w' bw S (L + 1) vl vnm ps' ns ∧ ps'.length = ps.length := by
  have HW : Hid (Wis W0 w bw S L vl vnm ps ns) := hW
  have HI : Hid (ps[i]? = some p) := hi
  have HO : Hid (p.Ok w W0.heap.size L) := hW.ok p (List.mem_of_getElem? hi)
  have Ho : Hid o.Ok := ho
  obtain ⟨kind, on, oa, ob, os, ot, ou⟩ := o
  simp only at hk
  subst hk
  simp only [OpV.cells]
  have hblt := blk_lt HO.out.prog.vol
  have halt := blk_lt HO.out.ref.vol
  have hab : p.b ≠ p.a := blk_ne HO.out.prog.vol HO.out.ref.vol (by decide)
  have hlast := HO.out.last
  clear hW hi ho
  go_enter Tryz.func45, Tryz.ntmps45
  go_wp2_with fail
  have hkW := ((Kept.refl nothing w).alloc (.cells #[.pointer (some ⟨p.b, 0, none⟩), .pointer (some ⟨p.a, 0, none⟩)] 96)).alloc (.cells #[.int .i64 2, .int .i64 on, .int .i64 oa, .int .i64 ob, .string os, .string ot, .string ou] 56)
  have hx0 := alloc_at1 w (.cells #[.pointer (some ⟨p.b, 0, none⟩), .pointer (some ⟨p.a, 0, none⟩)] 96 (0, 0)) (.cells #[.int .i64 2, .int .i64 on, .int .i64 oa, .int .i64 ob, .string os, .string ot, .string ou] 56 (0, 0))
  have hx1 := alloc_at2 w (.cells #[.pointer (some ⟨p.b, 0, none⟩), .pointer (some ⟨p.a, 0, none⟩)] 96 (0, 0)) (.cells #[.int .i64 2, .int .i64 on, .int .i64 oa, .int .i64 ob, .string os, .string ot, .string ou] 56 (0, 0))
  refine (pWrite_any p.b oa os _ p.ι p.R p.vn p.pvs p.psv (HO.out.prog.keptN hkW) HO.out.good Ho.out.s1 Ho.out.a1 Ho.out.a2).mono ?_
  rintro e w1 ⟨err, rfl, herr, ⟨vn', ι', hP1⟩, hk1⟩
  have hy0 := hk1.get hx0 (by intro h; omega)
  have hy1 := hk1.get hx1 (by intro h; omega)
  have c01 : w1.cell? ⟨w.heap.size, 1, none⟩ = some (.pointer (some ⟨p.a, 0, none⟩)) := blk_cell hy0 1 rfl
  have c12 : w1.cell? ⟨w.heap.size + 1, 2, none⟩ = some (.int .i64 oa) := blk_cell hy1 2 rfl
  have c14 : w1.cell? ⟨w.heap.size + 1, 4, none⟩ = some (.string os) := blk_cell hy1 4 rfl
  have HP1 : Hid (PRep w1 p.b ι' (writeF p.R oa os).1 vn' p.pvs p.psv) := hP1
  have Herr : Hid (ErrRep w1 err (writeF p.R oa os).2) := herr
  have tagW : ∀ {t' : TypeId}, t' ≠ 73 → ∀ g cur, w.heap[g]? = some (.cells cur t' (0, 0)) → ¬ g = p.b := by
    intro t' ht g cur hg e
    exact blk_ne hg HO.out.prog.vol ht e
  have hk01 : Kept (fun k => k = p.b) w w1 := (hkW.mono (fun _ _ h => h.elim)).trans hk1
  have HR1 : Hid (RRep w1 p.a p.R p.vb p.rvs p.rsv) := HO.out.ref.kept hk01 (fun e => hab e.symm) (fun g hg => by obtain ⟨cur, hc⟩ := owns_tag HO.out.ref.snaps hg; exact tagW (by decide) g cur hc) (fun g cur hc => tagW (by decide) g cur hc)
  clear hx0 hx1 hy0 hy1 hP1 herr
  go_wp2_with fail
  refine (rWrite_any p.a oa os w1 p.R p.vb p.rvs p.rsv HR1.out HO.out.good (by omega) Ho.out.s1 Ho.out.a1 Ho.out.a2).mono ?_
  rintro e w2 ⟨rfl, ⟨vb', hR2⟩, hk2⟩
  have tag1 : ∀ {t' : TypeId}, t' ≠ 141 → ∀ g cur, w1.heap[g]? = some (.cells cur t' (0, 0)) → ¬ g = p.a := by
    intro t' ht g cur hg e
    exact blk_ne hg HR1.out.vol ht e
  have HP2 : Hid (PRep w2 p.b ι' (writeF p.R oa os).1 vn' p.pvs p.psv) := HP1.out.kept hk2 hab (fun g hg => by obtain ⟨cur, hc⟩ := owns_tag HP1.out.snaps hg; exact tag1 (by decide) g cur hc) (fun g cur hc => tag1 (by decide) g cur hc) (fun g cur hc => tag1 (by decide) g cur hc)
  have HR2 : Hid (RRep w2 p.a (writeF p.R oa os).1 vb' p.rvs p.rsv) := hR2
  have Herr2 : Hid (ErrRep w2 err (writeF p.R oa os).2) := Herr.out.kept hk2 (fun g cur hc => tag1 (by decide) g cur hc) (fun g cur hc => tag1 (by decide) g cur hc)
  have hk02 : Kept (Touch p) w w2 := (hk01.mono (fun k _ e => e ▸ Touch.b p)).trans (hk2.mono (fun k _ e => e ▸ Touch.a p))
  have hgd := good_write HO.out.good oa os
  have HW2 : Hid (Wis W0 w2 bw S (L + 1) vl vnm (ps.set i ⟨p.b, p.a, ι', (writeF p.R oa os).1, vn', p.pvs, p.psv, vb', p.rvs, p.rsv⟩) ns) :=
    HW.out.step HI.out hk02 (by omega) rfl rfl HP2.out HR2.out hgd.1 (by have := hgd.2; show (writeF p.R oa os).1.last ≤ L + 1; omega) (RowAt.same _ _) (RowAt.same _ _)
  have hcn := (codes_no p.R os os oa).2.1
  clear hR2 hk2 tag1 hk02 hgd tagW hk01 hk1 hkW
  generalize (writeF p.R oa os).2 = code at Herr2 hcn
  go_wp2_with fail
  refine (says_any err code w2 HW2.out.globals Herr2.out hcn.1 hcn.2).mono ?_
  rintro e w3 ⟨rfl, hk3⟩
  go_wp2
  go_ret
  exact ⟨rfl, _, HW2.out.keptN hk3, by simp⟩

set_option maxRecDepth 100000 in
set_option maxHeartbeats 4000000 in
theorem done_snap (W0 w : World) (bw L : Nat) (vl vnm : Value) (ps : List PS) (ns : List Value) {S : Snd} (hW : Wis W0 w bw S L vl vnm ps ns) (i : Nat) (p : PS) (hi : ps[i]? = some p) (o : OpV) (ho : o.Ok) (hk : o.kind = 4) :
    Calls Tryz.prog 45 #[.pointer (some ⟨bw, 0, none⟩), .agg #[.pointer (some ⟨p.b, 0, none⟩), .pointer (some ⟨p.a, 0, none⟩)], .agg o.cells] w fun e w' => e = .returned (.bool true) ∧ ∃ ps', Wis W0 w' bw S (L + 1) vl vnm ps' ns ∧ ps'.length = ps.length := by
  have HW : Hid (Wis W0 w bw S L vl vnm ps ns) := hW
  have HI : Hid (ps[i]? = some p) := hi
  have HO : Hid (p.Ok w W0.heap.size L) := hW.ok p (List.mem_of_getElem? hi)
  have Ho : Hid o.Ok := ho
  obtain ⟨kind, on, oa, ob, os, ot, ou⟩ := o
  simp only at hk
  subst hk
  simp only [OpV.cells]
  have hblt := blk_lt HO.out.prog.vol
  have halt := blk_lt HO.out.ref.vol
  have hab : p.b ≠ p.a := blk_ne HO.out.prog.vol HO.out.ref.vol (by decide)
  have hlast := HO.out.last
  clear hW hi ho
  go_enter Tryz.func45, Tryz.ntmps45
  go_wp2_with fail
  have hkW := ((Kept.refl nothing w).alloc (.cells #[.pointer (some ⟨p.b, 0, none⟩), .pointer (some ⟨p.a, 0, none⟩)] 96)).alloc (.cells #[.int .i64 4, .int .i64 on, .int .i64 oa, .int .i64 ob, .string os, .string ot, .string ou] 56)
  have hx0 := alloc_at1 w (.cells #[.pointer (some ⟨p.b, 0, none⟩), .pointer (some ⟨p.a, 0, none⟩)] 96 (0, 0)) (.cells #[.int .i64 4, .int .i64 on, .int .i64 oa, .int .i64 ob, .string os, .string ot, .string ou] 56 (0, 0))
  have hx1 := alloc_at2 w (.cells #[.pointer (some ⟨p.b, 0, none⟩), .pointer (some ⟨p.a, 0, none⟩)] 96 (0, 0)) (.cells #[.int .i64 4, .int .i64 on, .int .i64 oa, .int .i64 ob, .string os, .string ot, .string ou] 56 (0, 0))
  have hpslt : ∀ k, p.pvs.ownBlock = some k → k < w.heap.size := fun k hk => by obtain ⟨cur, hc⟩ := owns_tag HO.out.prog.snaps hk; exact blk_lt hc
  refine (pSnap_any p.b os _ p.ι p.R p.vn p.pvs p.psv (HO.out.prog.keptN hkW) HO.out.good Ho.out.s1).mono ?_
  rintro e w1 ⟨err, rfl, herr, ⟨pvs', psv', hP1, hrow1⟩, hk1⟩
  have hy0 := hk1.get hx0 (by rintro (h | h); omega; have := hpslt _ h; omega)
  have hy1 := hk1.get hx1 (by rintro (h | h); omega; have := hpslt _ h; omega)
  have c01 : w1.cell? ⟨w.heap.size, 1, none⟩ = some (.pointer (some ⟨p.a, 0, none⟩)) := blk_cell hy0 1 rfl
  have c14 : w1.cell? ⟨w.heap.size + 1, 4, none⟩ = some (.string os) := blk_cell hy1 4 rfl
  have HP1 : Hid (PRep w1 p.b p.ι (snapF p.R os).1 p.vn pvs' psv') := hP1
  have Herr : Hid (ErrRep w1 err (snapF p.R os).2) := herr
  have Hrow1 : Hid (RowAt w p.pvs pvs') := rowAt_mono hrow1 hkW.size
  have tagW : ∀ {t' : TypeId}, t' ≠ 73 → t' ≠ 84 → ∀ g cur, w.heap[g]? = some (.cells cur t' (0, 0)) → ¬ (g = p.b ∨ p.pvs.ownBlock = some g) := by
    rintro t' ht ht2 g cur hg (e | e)
    · exact blk_ne hg HO.out.prog.vol ht e
    · obtain ⟨cur', hc⟩ := owns_tag HO.out.prog.snaps e
      exact blk_ne hg hc ht2 rfl
  have hk01 : Kept (fun k => k = p.b ∨ p.pvs.ownBlock = some k) w w1 := (hkW.mono (fun _ _ h => h.elim)).trans hk1
  have HR1 : Hid (RRep w1 p.a p.R p.vb p.rvs p.rsv) := HO.out.ref.kept hk01 (tagW (by decide) (by decide) _ _ HO.out.ref.vol) (fun g hg => by obtain ⟨cur, hc⟩ := owns_tag HO.out.ref.snaps hg; exact tagW (by decide) (by decide) g cur hc) (fun g cur hc => tagW (by decide) (by decide) g cur hc)
  clear hx0 hx1 hy0 hy1 hP1 herr hrow1
  go_wp2_with fail
  refine (rSnap_any p.a os w1 p.R p.vb p.rvs p.rsv HR1.out HO.out.good Ho.out.s1).mono ?_
  rintro e w2 ⟨rfl, ⟨rvs', rsv', hR2, hrow2⟩, hk2⟩
  have tag1 : ∀ {t' : TypeId}, t' ≠ 141 → t' ≠ 143 → ∀ g cur, w1.heap[g]? = some (.cells cur t' (0, 0)) → ¬ (g = p.a ∨ p.rvs.ownBlock = some g) := by
    rintro t' ht ht2 g cur hg (e | e)
    · exact blk_ne hg HR1.out.vol ht e
    · obtain ⟨cur', hc⟩ := owns_tag HR1.out.snaps e
      exact blk_ne hg hc ht2 rfl
  have HP2 : Hid (PRep w2 p.b p.ι (snapF p.R os).1 p.vn pvs' psv') := HP1.out.kept hk2 (tag1 (by decide) (by decide) _ _ HP1.out.vol) (fun g hg => by obtain ⟨cur, hc⟩ := owns_tag HP1.out.snaps hg; exact tag1 (by decide) (by decide) g cur hc) (fun g cur hc => tag1 (by decide) (by decide) g cur hc) (fun g cur hc => tag1 (by decide) (by decide) g cur hc)
  have HR2 : Hid (RRep w2 p.a (snapF p.R os).1 p.vb rvs' rsv') := hR2
  have Hrow2 : Hid (RowAt w p.rvs rvs') := rowAt_mono hrow2 hk01.size
  have Herr2 : Hid (ErrRep w2 err (snapF p.R os).2) := Herr.out.kept hk2 (fun g cur hc => tag1 (by decide) (by decide) g cur hc) (fun g cur hc => tag1 (by decide) (by decide) g cur hc)
  have hk02 : Kept (Touch p) w w2 := (hk01.mono (fun k _ e => e.elim (fun h => .inl h) (fun h => .inr (.inr (.inl h))))).trans (hk2.mono (fun k _ e => e.elim (fun h => .inr (.inl h)) (fun h => .inr (.inr (.inr h)))))
  have hgd := good_snap HO.out.good os
  have HW2 : Hid (Wis W0 w2 bw S (L + 1) vl vnm (ps.set i ⟨p.b, p.a, p.ι, (snapF p.R os).1, p.vn, pvs', psv', p.vb, rvs', rsv'⟩) ns) :=
    HW.out.step HI.out hk02 (by omega) rfl rfl HP2.out HR2.out hgd.1 (by have := hgd.2; show (snapF p.R os).1.last ≤ L + 1; omega) Hrow1.out Hrow2.out
  have hcn := (codes_no p.R os os oa).2.2.1
  clear hR2 hk2 tag1 hk02 hgd tagW hk01 hk1 hkW hrow2 hpslt
  generalize (snapF p.R os).2 = code at Herr2 hcn
  go_wp2_with fail
  refine (says_any err code w2 HW2.out.globals Herr2.out hcn.1 hcn.2).mono ?_
  rintro e w3 ⟨rfl, hk3⟩
  go_wp2
  go_ret
  exact ⟨rfl, _, HW2.out.keptN hk3, by simp⟩

set_option maxRecDepth 100000 in
set_option maxHeartbeats 4000000 in
theorem done_drop (W0 w : World) (bw L : Nat) (vl vnm : Value) (ps : List PS) (ns : List Value) {S : Snd} (hW : Wis W0 w bw S L vl vnm ps ns) (i : Nat) (p : PS) (hi : ps[i]? = some p) (o : OpV) (ho : o.Ok) (hk : o.kind = 5) :
    Calls Tryz.prog 45 #[.pointer (some ⟨bw, 0, none⟩), .agg #[.pointer (some ⟨p.b, 0, none⟩), .pointer (some ⟨p.a, 0, none⟩)], .agg o.cells] w fun e w' => e = .returned (.bool true) ∧ ∃ ps', Wis W0 w' bw S (L + 1) vl vnm ps' ns ∧ ps'.length = ps.length := by
  have HW : Hid (Wis W0 w bw S L vl vnm ps ns) := hW
  have HI : Hid (ps[i]? = some p) := hi
  have HO : Hid (p.Ok w W0.heap.size L) := hW.ok p (List.mem_of_getElem? hi)
  have Ho : Hid o.Ok := ho
  obtain ⟨kind, on, oa, ob, os, ot, ou⟩ := o
  simp only at hk
  subst hk
  simp only [OpV.cells]
  have hblt := blk_lt HO.out.prog.vol
  have halt := blk_lt HO.out.ref.vol
  have hab : p.b ≠ p.a := blk_ne HO.out.prog.vol HO.out.ref.vol (by decide)
  have hlast := HO.out.last
  clear hW hi ho
  go_enter Tryz.func45, Tryz.ntmps45
  go_wp2_with fail
  have hkW := ((Kept.refl nothing w).alloc (.cells #[.pointer (some ⟨p.b, 0, none⟩), .pointer (some ⟨p.a, 0, none⟩)] 96)).alloc (.cells #[.int .i64 5, .int .i64 on, .int .i64 oa, .int .i64 ob, .string os, .string ot, .string ou] 56)
  have hx0 := alloc_at1 w (.cells #[.pointer (some ⟨p.b, 0, none⟩), .pointer (some ⟨p.a, 0, none⟩)] 96 (0, 0)) (.cells #[.int .i64 5, .int .i64 on, .int .i64 oa, .int .i64 ob, .string os, .string ot, .string ou] 56 (0, 0))
  have hx1 := alloc_at2 w (.cells #[.pointer (some ⟨p.b, 0, none⟩), .pointer (some ⟨p.a, 0, none⟩)] 96 (0, 0)) (.cells #[.int .i64 5, .int .i64 on, .int .i64 oa, .int .i64 ob, .string os, .string ot, .string ou] 56 (0, 0))
  have hpslt : ∀ k, p.pvs.ownBlock = some k → k < w.heap.size := fun k hk => by obtain ⟨cur, hc⟩ := owns_tag HO.out.prog.snaps hk; exact blk_lt hc
  refine (pDrop_any p.b os _ p.ι p.R p.vn p.pvs p.psv (HO.out.prog.keptN hkW) HO.out.good Ho.out.s1).mono ?_
  rintro e w1 ⟨err, rfl, herr, ⟨pvs', psv', hP1, hrow1⟩, hk1⟩
  have hy0 := hk1.get hx0 (by rintro (h | h); omega; have := hpslt _ h; omega)
  have hy1 := hk1.get hx1 (by rintro (h | h); omega; have := hpslt _ h; omega)
  have c01 : w1.cell? ⟨w.heap.size, 1, none⟩ = some (.pointer (some ⟨p.a, 0, none⟩)) := blk_cell hy0 1 rfl
  have c14 : w1.cell? ⟨w.heap.size + 1, 4, none⟩ = some (.string os) := blk_cell hy1 4 rfl
  have HP1 : Hid (PRep w1 p.b p.ι (dropF p.R os).1 p.vn pvs' psv') := hP1
  have Herr : Hid (ErrRep w1 err (dropF p.R os).2) := herr
  have Hrow1 : Hid (RowAt w p.pvs pvs') := rowAt_mono hrow1 hkW.size
  have tagW : ∀ {t' : TypeId}, t' ≠ 73 → t' ≠ 84 → ∀ g cur, w.heap[g]? = some (.cells cur t' (0, 0)) → ¬ (g = p.b ∨ p.pvs.ownBlock = some g) := by
    rintro t' ht ht2 g cur hg (e | e)
    · exact blk_ne hg HO.out.prog.vol ht e
    · obtain ⟨cur', hc⟩ := owns_tag HO.out.prog.snaps e
      exact blk_ne hg hc ht2 rfl
  have hk01 : Kept (fun k => k = p.b ∨ p.pvs.ownBlock = some k) w w1 := (hkW.mono (fun _ _ h => h.elim)).trans hk1
  have HR1 : Hid (RRep w1 p.a p.R p.vb p.rvs p.rsv) := HO.out.ref.kept hk01 (tagW (by decide) (by decide) _ _ HO.out.ref.vol) (fun g hg => by obtain ⟨cur, hc⟩ := owns_tag HO.out.ref.snaps hg; exact tagW (by decide) (by decide) g cur hc) (fun g cur hc => tagW (by decide) (by decide) g cur hc)
  clear hx0 hx1 hy0 hy1 hP1 herr hrow1
  go_wp2_with fail
  refine (rDrop_any p.a os w1 p.R p.vb p.rvs p.rsv HR1.out HO.out.good Ho.out.s1).mono ?_
  rintro e w2 ⟨rfl, ⟨rvs', rsv', hR2, hrow2⟩, hk2⟩
  have tag1 : ∀ {t' : TypeId}, t' ≠ 141 → t' ≠ 143 → ∀ g cur, w1.heap[g]? = some (.cells cur t' (0, 0)) → ¬ (g = p.a ∨ p.rvs.ownBlock = some g) := by
    rintro t' ht ht2 g cur hg (e | e)
    · exact blk_ne hg HR1.out.vol ht e
    · obtain ⟨cur', hc⟩ := owns_tag HR1.out.snaps e
      exact blk_ne hg hc ht2 rfl
  have HP2 : Hid (PRep w2 p.b p.ι (dropF p.R os).1 p.vn pvs' psv') := HP1.out.kept hk2 (tag1 (by decide) (by decide) _ _ HP1.out.vol) (fun g hg => by obtain ⟨cur, hc⟩ := owns_tag HP1.out.snaps hg; exact tag1 (by decide) (by decide) g cur hc) (fun g cur hc => tag1 (by decide) (by decide) g cur hc) (fun g cur hc => tag1 (by decide) (by decide) g cur hc)
  have HR2 : Hid (RRep w2 p.a (dropF p.R os).1 p.vb rvs' rsv') := hR2
  have Hrow2 : Hid (RowAt w p.rvs rvs') := rowAt_mono hrow2 hk01.size
  have Herr2 : Hid (ErrRep w2 err (dropF p.R os).2) := Herr.out.kept hk2 (fun g cur hc => tag1 (by decide) (by decide) g cur hc) (fun g cur hc => tag1 (by decide) (by decide) g cur hc)
  have hk02 : Kept (Touch p) w w2 := (hk01.mono (fun k _ e => e.elim (fun h => .inl h) (fun h => .inr (.inr (.inl h))))).trans (hk2.mono (fun k _ e => e.elim (fun h => .inr (.inl h)) (fun h => .inr (.inr (.inr h)))))
  have hgd := good_drop HO.out.good os
  have HW2 : Hid (Wis W0 w2 bw S (L + 1) vl vnm (ps.set i ⟨p.b, p.a, p.ι, (dropF p.R os).1, p.vn, pvs', psv', p.vb, rvs', rsv'⟩) ns) :=
    HW.out.step HI.out hk02 (by omega) rfl rfl HP2.out HR2.out hgd.1 (by have := hgd.2; show (dropF p.R os).1.last ≤ L + 1; omega) Hrow1.out Hrow2.out
  have hcn := (codes_no p.R os os oa).2.2.2
  clear hR2 hk2 tag1 hk02 hgd tagW hk01 hk1 hkW hrow2 hpslt
  generalize (dropF p.R os).2 = code at Herr2 hcn
  go_wp2_with fail
  refine (says_any err code w2 HW2.out.globals Herr2.out hcn.1 hcn.2).mono ?_
  rintro e w3 ⟨rfl, hk3⟩
  go_wp2
  go_ret
  exact ⟨rfl, _, HW2.out.keptN hk3, by simp⟩

set_option maxRecDepth 100000 in
set_option maxHeartbeats 1000000 in
theorem done_other (w : World) (bw : Nat) (p : PS) (o : OpV) (h1 : o.kind < 2 ∨ o.kind = 3 ∨ 5 < o.kind) (h2 : o.kind ≤ 9) :
    Calls Tryz.prog 45 #[.pointer (some ⟨bw, 0, none⟩), .agg #[.pointer (some ⟨p.b, 0, none⟩), .pointer (some ⟨p.a, 0, none⟩)], .agg o.cells] w fun e w' => e = .returned (.bool true) ∧ Kept nothing w w' := by
  obtain ⟨kind, on, oa, ob, os, ot, ou⟩ := o
  simp only at h1 h2
  simp only [OpV.cells]
  have k2 : (kind == 2) = false := by simp; omega
  have k4 : (kind == 4) = false := by simp; omega
  have k5 : (kind == 5) = false := by simp; omega
  have k10 : (kind == 10) = false := by simp; omega
  have k11 : (kind == 11) = false := by simp; omega
  have k12 : (kind == 12) = false := by simp; omega
  clear h1 h2
  go_enter Tryz.func45, Tryz.ntmps45
  go_wp2
  go_ret
  exact ⟨rfl, ((Kept.refl nothing w).alloc _).alloc _⟩
end Go.Proofs.YtdnjfjdhkmngjaaGreatDoor
