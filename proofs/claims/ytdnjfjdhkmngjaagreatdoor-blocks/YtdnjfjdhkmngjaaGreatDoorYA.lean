import Derived.Test.YtdnjfjdhkmngjaaGreatDoorBD
import Derived.Test.YtdnjfjdhkmngjaaGreatDoorSD
import Derived.Test.YtdnjfjdhkmngjaaGreatDoorY2
namespace Go.Proofs.YtdnjfjdhkmngjaaGreatDoor
open Go.RowKit

/-! ### Send, both -/
theorem sendF_zero {R : Vol} {fr to : ByteArray} (h : (sendF R fr to).2 = 0) : nameB to = true ∧ 0 ≤ findF R.snaps to ∧ ((fr = ⟨#[]⟩ ∧ (sendF R fr to).1 = wholeL (texts (snapOf R to))) ∨ (fr ≠ ⟨#[]⟩ ∧ nameB fr = true ∧ 0 ≤ findF R.snaps fr ∧ findF R.snaps fr < findF R.snaps to ∧ (sendF R fr to).1 = sinceL (texts (snapOf R fr)) (texts (snapOf R to)))) := by
  by_cases h3 : nameB to = false ∨ (nameB fr = false ∧ fr ≠ ⟨#[]⟩)
  · rw [sendF, if_pos h3] at h; exact absurd h (by decide)
  by_cases h4 : findF R.snaps to < 0 ∨ (findF R.snaps fr < 0 ∧ fr ≠ ⟨#[]⟩)
  · rw [sendF, if_neg h3, if_pos h4] at h; exact absurd h (by decide)
  by_cases h7 : findF R.snaps to ≤ findF R.snaps fr
  · rw [sendF, if_neg h3, if_neg h4, if_pos h7] at h; exact absurd h (by decide)
  have ht : nameB to = true := by
    cases e : nameB to with
    | true => rfl
    | false => exact absurd (.inl e) h3
  refine ⟨ht, by have : ¬ findF R.snaps to < 0 := fun e => h4 (.inl e); omega, ?_⟩
  by_cases he : fr = ⟨#[]⟩
  · exact .inl ⟨he, by rw [sendF, if_neg h3, if_neg h4, if_neg h7, if_pos he]⟩
  · refine .inr ⟨he, ?_, ?_, by omega, by rw [sendF, if_neg h3, if_neg h4, if_neg h7, if_neg he]⟩
    · cases e : nameB fr with
      | true => rfl
      | false => exact absurd (.inr ⟨e, he⟩) h3
    · have : ¬ findF R.snaps fr < 0 := fun e => h4 (.inr ⟨e, he⟩)
      omega
theorem pSend_ok (b : Nat) (fr to : ByteArray) (w : World) (ι : Nat → Nat) (R : Vol) (vn vs : Value) (sv : List SV) (hP : PRep w b ι R vn vs sv) (hG : Good R) (hs1 : fr.size ≤ maxLen) (hs2 : to.size ≤ maxLen) (h0 : (sendF R fr to).2 = 0) :
    Calls Tryz.prog 26 #[.pointer (some ⟨b, 0, none⟩), .string fr, .string to] w fun e w' => ∃ x, e = .returned (.tuple #[.pointer (some ⟨x, 0, none⟩), .nilIface]) ∧ w.heap.size ≤ x ∧ w'.heap[x]? = some (.cells #[.string (bstr (sendF R fr to).1)] 105 (0, 0)) ∧ Kept nothing w w' := by
  obtain ⟨ht, hft, ⟨he, h⟩ | ⟨he, hn, hff, hlt, h⟩⟩ := sendF_zero h0
  · rw [h]; exact pSend_whole b fr to w ι R vn vs sv hP hG hs2 he ht hft
  · rw [h]; exact pSend_since b fr to w ι R vn vs sv hP hG hs1 hs2 he hn ht hff hlt
theorem rSend_ok (a : Nat) (fr to : ByteArray) (w : World) (R : Vol) (vb vs : Value) (sv : List SV) (hR : RRep w a R vb vs sv) (hG : Good R) (hs1 : fr.size ≤ maxLen) (hs2 : to.size ≤ maxLen) (h0 : (sendF R fr to).2 = 0) :
    Calls Tryz.prog 69 #[.pointer (some ⟨a, 0, none⟩), .string fr, .string to] w fun e w' => e = .returned (.tuple #[.string (bstr (sendF R fr to).1), .int .i64 0]) ∧ Kept nothing w w' := by
  obtain ⟨ht, hft, ⟨he, h⟩ | ⟨he, hn, hff, hlt, h⟩⟩ := sendF_zero h0
  · rw [h]; exact rSend_whole a fr to w R vb vs sv hR hG hs1 hs2 he ht hft
  · rw [h]; exact rSend_since a fr to w R vb vs sv hR hG hs1 hs2 he hn ht hff hlt

/-! ### The senders in the invariant -/
/-- What a step on the senders may write to. -/
def sndB (W0 wb : World) (bw : Nat) : Nat → Prop := fun k => k = bw ∨ (W0.heap.size ≤ k ∧ ∃ cur, wb.heap[k]? = some (.cells cur 135 (0, 0)) ∨ wb.heap[k]? = some (.cells cur 105 (0, 0)))
theorem Wis.sent {W0 wb w' : World} {bw L : Nat} {vl vnm : Value} {ps : List PS} {ns : List Value} {S S' : Snd} (h : Wis W0 wb bw S L vl vnm ps ns) (hk : Kept (sndB W0 wb bw) wb w')
    (hw : w'.heap[bw]? = some (.cells #[vl, S'.v, vnm] 54 (0, 0))) (hS : S'.Ok w' W0.heap.size) : Wis W0 w' bw S' L vl vnm ps ns := by
  have htag : ∀ {t' : TypeId}, t' ≠ 54 → t' ≠ 135 → t' ≠ 105 → ∀ g cur, wb.heap[g]? = some (.cells cur t' (0, 0)) → ¬ sndB W0 wb bw g := by
    rintro t' h1 h2 h3 g cur hg (rfl | ⟨_, cur', hc | hc⟩)
    · exact blk_ne hg h.world h1 rfl
    · exact blk_ne hg hc h2 rfl
    · exact blk_ne hg hc h3 rfl
  refine ⟨h.kept.trans' hk (fun k hk1 hk2 => ?_), h.glob, h.hbw, hw, ?_, ?_, h.apart, ?_, h.four, ?_, hS⟩
  · rcases hk2 with rfl | ⟨hb, _⟩
    · rfl
    · omega
  · exact owns_keptB h.pairs hk (fun g hg => by obtain ⟨cur, hc⟩ := owns_tag (owns_weaken h.pairs) hg; exact htag (by decide) (by decide) (by decide) g cur hc)
  · intro q hq
    have hok := h.ok q hq
    exact ⟨hok.prog.kept hk (htag (by decide) (by decide) (by decide) _ _ hok.prog.vol) (fun g hg => by obtain ⟨cur, hc⟩ := owns_tag hok.prog.snaps hg; exact htag (by decide) (by decide) (by decide) g cur hc) (htag (by decide) (by decide) (by decide)) (htag (by decide) (by decide) (by decide)),
      hok.ref.kept hk (htag (by decide) (by decide) (by decide) _ _ hok.ref.vol) (fun g hg => by obtain ⟨cur, hc⟩ := owns_tag hok.ref.snaps hg; exact htag (by decide) (by decide) (by decide) g cur hc) (htag (by decide) (by decide) (by decide)), hok.good, hok.last, hok.lo1, hok.lo2, hok.lo3, hok.lo4⟩
  · exact owns_keptB h.names hk (fun g hg => by obtain ⟨cur, hc⟩ := owns_tag (owns_weaken h.names) hg; exact htag (by decide) (by decide) (by decide) g cur hc)
  · intro k v hv
    obtain ⟨n, hn⟩ := h.marks k v hv
    exact ⟨n, owns_kept hn hk (fun g hg => by obtain ⟨cur, hc⟩ := owns_tag hn hg; exact htag (by decide) (by decide) (by decide) g cur hc)⟩

theorem und_senders : Tryz.prog.underlying 51 = some (.slice 135) := by kernel_rfl
theorem info_sender : (Tryz.prog.info? 135).map (fun i => (i.zero, i.size, i.bytes)) = some (some (.agg #[.pointer none, .string ⟨#[]⟩, .string ⟨#[]⟩]), 3, 40) := by kernel_rfl
theorem one_sender (x : Option Addr) (s t : ByteArray) : ∀ u ∈ [Value.pointer x, .string s, .string t], u.oneCell' = true := by
  intro u hu; simp at hu; rcases hu with rfl | rfl | rfl <;> rfl
theorem sndcells_snoc (l : List SS) (s : SS) : sndcells (l ++ [s]) = sndcells l ++ [.pointer (some ⟨s.x, 0, none⟩), .string s.left, .string s.all] := by simp [sndcells]

set_option maxRecDepth 100000 in
set_option maxHeartbeats 4000000 in
theorem sent_bad (W0 w : World) (bw L : Nat) (vl vnm : Value) (ps : List PS) (ns : List Value) {S : Snd} (hW : Wis W0 w bw S L vl vnm ps ns) (p : PS) (hp : p ∈ ps) (o : OpV) (ho : o.Ok) (hbad : (sendF p.R o.s o.t).2 ≠ 0) :
    Calls Tryz.prog 44 #[.pointer (some ⟨bw, 0, none⟩), .agg #[.pointer (some ⟨p.b, 0, none⟩), .pointer (some ⟨p.a, 0, none⟩)], .agg o.cells] w fun e w' => e = .returned (.bool true) ∧ Kept nothing w w' := by
  have HW : Hid (Wis W0 w bw S L vl vnm ps ns) := hW
  have HO : Hid (p.Ok w W0.heap.size L) := hW.ok p hp
  have Ho : Hid o.Ok := ho
  have Hbad : Hid ((sendF p.R o.s o.t).2 ≠ 0) := hbad
  obtain ⟨kind, on, oa, ob, os, ot, ou⟩ := o
  simp only [OpV.cells]
  clear hW hp ho hbad
  go_enter Tryz.func44, Tryz.ntmps44
  go_wp2_with fail
  have hkW := ((Kept.refl nothing w).alloc (.cells #[.pointer (some ⟨p.b, 0, none⟩), .pointer (some ⟨p.a, 0, none⟩)] 96)).alloc (.cells #[.int .i64 kind, .int .i64 on, .int .i64 oa, .int .i64 ob, .string os, .string ot, .string ou] 56)
  have hx0 := alloc_at1 w (.cells #[.pointer (some ⟨p.b, 0, none⟩), .pointer (some ⟨p.a, 0, none⟩)] 96 (0, 0)) (.cells #[.int .i64 kind, .int .i64 on, .int .i64 oa, .int .i64 ob, .string os, .string ot, .string ou] 56 (0, 0))
  have hx1 := alloc_at2 w (.cells #[.pointer (some ⟨p.b, 0, none⟩), .pointer (some ⟨p.a, 0, none⟩)] 96 (0, 0)) (.cells #[.int .i64 kind, .int .i64 on, .int .i64 oa, .int .i64 ob, .string os, .string ot, .string ou] 56 (0, 0))
  refine (pSend_bad p.b os ot _ p.ι p.R p.vn p.pvs p.psv (HO.out.prog.keptN hkW) HO.out.good Ho.out.s1 Ho.out.t1 Hbad.out).mono ?_
  rintro e w1 ⟨err, rfl, herr, hk1⟩
  have hy0 := hk1.get hx0 (fun h => h)
  have hy1 := hk1.get hx1 (fun h => h)
  have c01 : w1.cell? ⟨w.heap.size, 1, none⟩ = some (.pointer (some ⟨p.a, 0, none⟩)) := blk_cell hy0 1 rfl
  have c14 : w1.cell? ⟨w.heap.size + 1, 4, none⟩ = some (.string os) := blk_cell hy1 4 rfl
  have c15 : w1.cell? ⟨w.heap.size + 1, 5, none⟩ = some (.string ot) := blk_cell hy1 5 rfl
  have hk01 := hkW.trans hk1
  have Herr : Hid (ErrRep w1 err (sendF p.R os ot).2) := herr
  have HR1 : Hid (RRep w1 p.a p.R p.vb p.rvs p.rsv) := HO.out.ref.kept hk01 (fun h => h) (fun _ _ h => h) (fun _ _ _ h => h)
  clear hx0 hx1 hy0 hy1 herr
  go_wp2_with fail
  refine (rSend_bad p.a os ot w1 p.R p.vb p.rvs p.rsv HR1.out Ho.out.s1 Ho.out.t1 Hbad.out).mono ?_
  rintro e w2 ⟨rfl, rfl⟩
  have hcn := sendF_code p.R os ot
  have hb0 : (sendF p.R os ot).2 ≠ 0 := Hbad.out
  generalize (sendF p.R os ot).2 = code at Herr hcn hb0
  go_wp2_with fail
  refine (says_any err code w2 (HW.out.keptN hk01).globals Herr.out hcn.1 hcn.2).mono ?_
  rintro e w3 ⟨rfl, hk3⟩
  have hcz : (code == 0) = false := by simpa using hb0
  have hcy : (code != 0) = true := by simpa using hb0
  go_wp2
  go_ret
  exact ⟨rfl, hk01.trans hk3⟩

set_option maxRecDepth 100000 in
set_option maxHeartbeats 4000000 in
theorem sent_ok (W0 w : World) (bw L : Nat) (vl vnm : Value) (ps : List PS) (ns : List Value) {S : Snd} (hW : Wis W0 w bw S L vl vnm ps ns) (hN : S.l.length ≤ 1759218604400) (p : PS) (hp : p ∈ ps) (o : OpV) (ho : o.Ok) (h0 : (sendF p.R o.s o.t).2 = 0) :
    Calls Tryz.prog 44 #[.pointer (some ⟨bw, 0, none⟩), .agg #[.pointer (some ⟨p.b, 0, none⟩), .pointer (some ⟨p.a, 0, none⟩)], .agg o.cells] w fun e w' => e = .returned (.bool true) ∧ ∃ S', Wis W0 w' bw S' L vl vnm ps ns ∧ S'.l.length = S.l.length + 1 := by
  have HW : Hid (Wis W0 w bw S L vl vnm ps ns) := hW
  have HO : Hid (p.Ok w W0.heap.size L) := hW.ok p hp
  have Ho : Hid o.Ok := ho
  have H0 : Hid ((sendF p.R o.s o.t).2 = 0) := h0
  obtain ⟨kind, on, oa, ob, os, ot, ou⟩ := o
  simp only [OpV.cells]
  have hblt0 := blk_lt hW.world
  clear hW hp ho h0
  go_enter Tryz.func44, Tryz.ntmps44
  go_wp2_with fail
  have hkW := ((Kept.refl nothing w).alloc (.cells #[.pointer (some ⟨p.b, 0, none⟩), .pointer (some ⟨p.a, 0, none⟩)] 96)).alloc (.cells #[.int .i64 kind, .int .i64 on, .int .i64 oa, .int .i64 ob, .string os, .string ot, .string ou] 56)
  have hx0 := alloc_at1 w (.cells #[.pointer (some ⟨p.b, 0, none⟩), .pointer (some ⟨p.a, 0, none⟩)] 96 (0, 0)) (.cells #[.int .i64 kind, .int .i64 on, .int .i64 oa, .int .i64 ob, .string os, .string ot, .string ou] 56 (0, 0))
  have hx1 := alloc_at2 w (.cells #[.pointer (some ⟨p.b, 0, none⟩), .pointer (some ⟨p.a, 0, none⟩)] 96 (0, 0)) (.cells #[.int .i64 kind, .int .i64 on, .int .i64 oa, .int .i64 ob, .string os, .string ot, .string ou] 56 (0, 0))
  refine (pSend_ok p.b os ot _ p.ι p.R p.vn p.pvs p.psv (HO.out.prog.keptN hkW) HO.out.good Ho.out.s1 Ho.out.t1 H0.out).mono ?_
  rintro e w1 ⟨x, rfl, hxl, hxb, hk1⟩
  have hy0 := hk1.get hx0 (fun h => h)
  have hy1 := hk1.get hx1 (fun h => h)
  have c01 : w1.cell? ⟨w.heap.size, 1, none⟩ = some (.pointer (some ⟨p.a, 0, none⟩)) := blk_cell hy0 1 rfl
  have c14 : w1.cell? ⟨w.heap.size + 1, 4, none⟩ = some (.string os) := blk_cell hy1 4 rfl
  have c15 : w1.cell? ⟨w.heap.size + 1, 5, none⟩ = some (.string ot) := blk_cell hy1 5 rfl
  have hk01 := hkW.trans hk1
  have HR1 : Hid (RRep w1 p.a p.R p.vb p.rvs p.rsv) := HO.out.ref.kept hk01 (fun h => h) (fun _ _ h => h) (fun _ _ _ h => h)
  have Hxl : Hid (w.heap.size ≤ x) := by have := hkW.size; show _ ≤ _; omega
  have Hxb : Hid (w1.heap[x]? = some (.cells #[.string (bstr (sendF p.R os ot).1)] 105 (0, 0))) := hxb
  clear hx0 hx1 hy0 hy1 hxl hxb
  go_wp2_with fail
  refine (rSend_ok p.a os ot w1 p.R p.vb p.rvs p.rsv HR1.out HO.out.good Ho.out.s1 Ho.out.t1 H0.out).mono ?_
  rintro e w2 ⟨rfl, hk2⟩
  have hk02 := hk01.trans hk2
  have Hxb2 := Hid.mk' (hk2.get Hxb.out (fun h => h))
  have Hsz : Hid ((bstr (sendF p.R os ot).1).size ≤ 4096) := by have := sendF_len HO.out.good os ot; show _ ≤ _; rw [bstr_size]; omega
  generalize bstr (sendF p.R os ot).1 = B at Hxb2 Hsz
  clear Hxb hk2 hk1
  go_wp2_with fail
  refine (says_any .nilIface 0 w2 (HW.out.keptN hk02).globals (ErrRep.nil _) (by decide) (by decide)).mono ?_
  rintro e w3 ⟨rfl, hk3⟩
  have hk03 := hk02.trans hk3
  have HW3 : Hid (Wis W0 w3 bw S L vl vnm ps ns) := HW.out.keptN hk03
  have Hxb3 := Hid.mk' (hk3.get Hxb2.out (fun h => h))
  have hc1 : w3.cell? ⟨bw, 1, none⟩ = some S.v := blk_cell HW3.out.world 1 rfl
  have hlt3 := blk_lt HW3.out.world
  have hszW := HW3.out.kept.size
  obtain ⟨la, lcap, hvl, _, _, _⟩ := owns_open (owns_weaken HW3.out.snd.row)
  rw [hvl] at hc1
  have Hvl := Hid.mk' hvl
  have Hrow : Hid (w3.ownsRow W0.heap.size 135 3 (.slice la S.l.length lcap) S.l.length (sndcells S.l)) := by have := HW3.out.snd.row; rw [hvl] at this; exact this
  clear hvl
  go_wp2_with (at_builtin; refine wp_append _ _ _ 3 40 und_senders info_sender rfl (by decide) (by decide) _ rfl _ _ rfl W0.heap.size (.slice la S.l.length lcap) S.l.length (sndcells S.l) rfl (Hrow.out.alloc _) ⟨w3.heap.size, 0, none⟩ 1 1 [.pointer (some ⟨x, 0, none⟩), .string B, .string B] rfl rfl (news_at _ _ _) (one_sender _ _ _) ?_ ?_ ?_)
  · omega
  · simp; omega
  intro v4 w4 ho4 hg4 _
  obtain ⟨g4, c4, hv4, _, _, _, _⟩ := owns_parts ho4 (by omega)
  subst hv4
  have hk34 : Kept (fun k => (Value.slice la S.l.length lcap).ownBlock = some k) w3 w4 := ((Kept.refl _ w3).alloc _).grown hg4 (fun k hk => .inl hk)
  have hnt : ∀ {t' : TypeId}, t' ≠ 135 → ∀ g cur, w3.heap[g]? = some (.cells cur t' (0, 0)) → ¬ (Value.slice la S.l.length lcap).ownBlock = some g := by
    intro t' h1 g cur hg hv
    obtain ⟨cur', hc⟩ := owns_tag (owns_weaken Hrow.out) hv
    exact blk_ne hg hc h1 rfl
  have hworld4 := hk34.get HW3.out.world (hnt (by decide) _ _ HW3.out.world)
  have hc14 : w4.cell? ⟨bw, 1, none⟩ = some S.v := blk_cell hworld4 1 rfl
  rw [Hvl.out] at hc14
  have hf14 := blk_frozen hworld4 1
  have hset := (Kept.refl (fun k => k = bw) w4).set_at 1 (.slice (some ⟨g4, 0, none⟩) (S.l.length + 1) c4)
  have hk35 : Kept (sndB W0 w3 bw) w3 (w4.setCell ⟨bw, 1, none⟩ (.slice (some ⟨g4, 0, none⟩) (S.l.length + 1) c4)) := by
    refine Kept.setCell (p := ⟨bw, 1, none⟩) (hk34.mono (fun k _ hk => ?_)) (.inl (.inl rfl)) _
    obtain ⟨cur, hc⟩ := owns_tag (owns_weaken Hrow.out) hk
    exact .inr ⟨owns_above Hrow.out hk, cur, .inl hc⟩
  have HF : Hid (Wis W0 (w4.setCell ⟨bw, 1, none⟩ (.slice (some ⟨g4, 0, none⟩) (S.l.length + 1) c4)) bw ⟨.slice (some ⟨g4, 0, none⟩) (S.l.length + 1) c4, S.l ++ [⟨x, B, B⟩]⟩ L vl vnm ps ns) := by
    refine HW3.out.sent hk35 ?_ ⟨?_, ?_, ?_⟩
    · have := blk_set hworld4 1 (.slice (some ⟨g4, 0, none⟩) (S.l.length + 1) c4)
      simpa using this
    · simp only [sndcells_snoc, List.length_append, List.length_cons, List.length_nil]
      exact owns_keptB ho4 hset (fun g hg e => by obtain ⟨cur, hc⟩ := owns_tag (owns_weaken ho4) hg; exact blk_ne hc hworld4 (by decide) e)
    · have hks : Kept (fun k => k = bw ∨ (Value.slice la S.l.length lcap).ownBlock = some k) w3 (w4.setCell ⟨bw, 1, none⟩ (.slice (some ⟨g4, 0, none⟩) (S.l.length + 1) c4)) :=
        Kept.setCell (p := ⟨bw, 1, none⟩) (hk34.mono (fun _ _ hk => .inr hk)) (.inl (.inl rfl)) _
      have hps : ∀ g cur, w3.heap[g]? = some (.cells cur 105 (0, 0)) → ¬ (g = bw ∨ (Value.slice la S.l.length lcap).ownBlock = some g) := by
        rintro g cur hg (rfl | h)
        · exact blk_ne hg HW3.out.world (by decide) rfl
        · exact hnt (by decide) g cur hg h
      intro s hs
      simp only [List.mem_append, List.mem_singleton] at hs
      rcases hs with hs | rfl
      · have he := HW3.out.snd.each s hs
        exact ⟨he.1, hks.get he.2.1 (hps _ _ he.2.1), he.2.2⟩
      · refine ⟨by have := Hxl.out; have := HW.out.kept.size; show W0.heap.size ≤ x; omega, hks.get Hxb3.out (hps _ _ Hxb3.out), Hsz.out, Hsz.out⟩
    · have hold : ∀ s ∈ S.l, s.x ≠ x := by
        intro s hs e
        have := blk_lt (HW.out.snd.each s hs).2.1
        have := Hxl.out
        omega
      intro i j s t hij hi hj
      simp only at hi hj
      by_cases ei : i < S.l.length
      · rw [List.getElem?_append_left ei] at hi
        by_cases ej : j < S.l.length
        · rw [List.getElem?_append_left ej] at hj
          exact HW.out.snd.apart i j s t hij hi hj
        · rw [List.getElem?_append_right (by omega)] at hj
          have hj0 := (List.getElem?_eq_some_iff.1 hj).1
          have : j - S.l.length = 0 := by simp at hj0; omega
          rw [this] at hj
          simp at hj; subst hj
          exact hold s (List.mem_of_getElem? hi)
      · rw [List.getElem?_append_right (by omega)] at hi
        have hi0 := (List.getElem?_eq_some_iff.1 hi).1
        have hiz : i - S.l.length = 0 := by simp at hi0; omega
        rw [hiz] at hi
        simp at hi; subst hi
        by_cases ej : j < S.l.length
        · rw [List.getElem?_append_left ej] at hj
          exact (hold t (List.mem_of_getElem? hj)).symm
        · rw [List.getElem?_append_right (by omega)] at hj
          have hj0 := (List.getElem?_eq_some_iff.1 hj).1
          simp at hj0
          omega
  clear ho4 hg4 hk34 hnt hworld4 hset hk35
  go_wp2
  go_ret
  exact ⟨rfl, _, HF.out, by simp⟩
end Go.Proofs.YtdnjfjdhkmngjaaGreatDoor
