import Derived.Test.YtdnjfjdhkmngjaaGreatDoorK
import Derived.Deep.RegionWith
import Derived.BigRegion
import Derived.BigCall
namespace Go.Proofs.YtdnjfjdhkmngjaaGreatDoor
open Go.RowKit

theorem und_strs : Tryz.prog.underlying 32 = some (.slice 9) := by kernel_rfl
theorem info_str : (Tryz.prog.info? 9).map (fun i => (i.zero, i.size, i.bytes)) = some (some (.string ⟨#[]⟩), 1, 16) := by kernel_rfl

theorem new_one_at (w : World) (o : Obj) (x : Value) (t : TypeId) : ∀ j u, [x][j]? = some u → ((w.alloc o).alloc (.cells #[x] t)).cell? ((⟨w.heap.size + 1, 0, none⟩ : Addr).add j) = some u := by
  have := cell_one_new (w.alloc o) x t
  simpa using this
theorem one_string (s : ByteArray) : ∀ u ∈ [Value.string s], u.oneCell' = true := by
  intro u hu; simp at hu; subst hu; rfl

set_option maxHeartbeats 1000000 in
theorem pList_any (w : World) (b : Nat) (vs : Value) (sv : List SV) (hc2 : w.cell? ⟨b, 2, none⟩ = some vs) (hv : w.ownsRow 0 84 2 vs sv.length (scells sv)) (hsl : ∀ t ∈ sv, ∃ a n c, t.2.1 = .slice a n c) (h6 : sv.length ≤ 6) :
    Calls Tryz.prog 38 #[.pointer (some ⟨b, 0, none⟩)] w fun e w' => ∃ v, e = .returned v ∧ w'.ownsRow w.heap.size 9 1 v sv.length (sv.map fun t => .string t.1) ∧ Kept nothing w w' := by
  have hlt : b < w.heap.size := World.block_lt_of_cell? w _ hc2
  obtain ⟨sa, scap, rfl, hnc, hcm, hcells⟩ := owns_open hv
  unfold maxLen at hcm
  have Hsl : Hid (∀ t ∈ sv, ∃ a n c, t.2.1 = .slice a n c) := hsl
  clear hv hsl
  go_enter Tryz.func38, Tryz.ntmps38
  go_wp2
  go_loopw [3, 11] (fun f i wr => ∃ k : Nat, k ≤ sv.length ∧ i = .int .i64 k ∧ wr.ownsRow w.heap.size 9 1 f k ((sv.take k).map fun t => .string t.1) ∧ Kept nothing w wr) (fun _ i _ => sv.length - (intOf i).toNat)
  case atStart => exact ⟨0, Nat.zero_le _, rfl, World.ownsRow_nil _ _ _ _, Kept.refl _ _⟩
  case round =>
    obtain ⟨k, hk, rfl, how, hkp⟩ := hrel
    by_cases hltk : k < sv.length
    · obtain ⟨g, rfl, hg, hcs⟩ := hcells (by omega)
      have hx : sv[k]? = some sv[k] := by simp
      have hpg := pairs_get (fun t : SV => .string t.1) (fun t => t.2.1) sv k _ hx
      have hc0 := (hkp.cell (p := ⟨g, k * 2, none⟩) hg (fun h => h)).trans (hcs (k * 2) _ hpg.1)
      have hc1 := (hkp.cell (p := ⟨g, k * 2 + 1, none⟩) hg (fun h => h)).trans (hcs (k * 2 + 1) _ hpg.2)
      obtain ⟨a1, n1, c1, hv1⟩ := Hsl.out sv[k] (by simp)
      have Htk : Hid ((sv.take (k + 1)).map (fun t => Value.string t.1) = (sv.take k).map (fun t => Value.string t.1) ++ [.string sv[k].1]) := by
        show _ = _
        rw [List.take_succ_eq_append_getElem hltk, List.map_append, List.map_cons, List.map_nil]
      rw [hv1] at hc1
      have How : Hid (wr.ownsRow w.heap.size 9 1 u3 k ((sv.take k).map fun t => .string t.1)) := how
      have hszx := hkp.size
      generalize sv[k].1 = nm at hc0 Htk
      clear hcs hpg hcells hx hv1 how
      go_wp2_with (at_builtin; refine wp_append _ _ _ 1 16 und_strs info_str rfl (by decide) (by decide) _ rfl _ _ rfl w.heap.size u3 k ((sv.take k).map fun t => .string t.1) rfl ((How.out.alloc _).alloc _) ⟨wr.heap.size + 1, 0, none⟩ 1 1 [.string nm] rfl rfl (new_one_at _ _ _ _) (one_string _) ?_ ?_ ?_)
      · omega
      · simp; omega
      intro v2 w2 ho2 hg2 _
      have Ho2 : Hid (w2.ownsRow w.heap.size 9 1 v2 (k + 1) ((sv.take (k + 1)).map fun t => .string t.1)) := by
        rw [Htk.out, List.map_take]; exact ho2
      have Hk2 : Hid (Kept nothing w w2) := ((hkp.alloc _).alloc _).grown hg2 (fun k hk => .inr (owns_above How.out hk))
      clear ho2 hg2
      go_wp2
      go_roundw
      case rel => exact ⟨k + 1, by omega, by go_num, Ho2.out, Hk2.out⟩
      case measure => simp [intOf]; omega
    · have hke : k = sv.length := by omega
      have How : Hid (wr.ownsRow w.heap.size 9 1 u3 sv.length (sv.map fun t => .string t.1)) := by
        rw [hke, List.take_length] at how; exact how
      clear how hke hcells
      go_wp2
      go_ret
      exact ⟨_, rfl, How.out, hkp⟩

/-- The program's volume, its blocks put in. -/
theorem prep_put {w : World} {b : Nat} {ι ι' : Nat → Nat} {R : Vol} {vn vs v : Value} {sv : List SV} {bs : List Blk} (h : PRep w b ι R vn vs sv) (hT : Tab w ι' v bs) (he : ∀ t ∈ sv, Tab w ι' t.2.1 t.2.2) (hinj : InjOn ι' (bs.map (·.2) ++ R.snaps.flatMap (fun t => t.2.map (·.2)))) (last : Nat) :
    PRep (w.setCell ⟨b, 1, none⟩ v) b ι' { R with blocks := bs, last := last } v vs sv := by
  have hk : Kept (fun k => k = b) w (w.setCell ⟨b, 1, none⟩ v) := (Kept.refl _ w).set_at _ _
  have hne : ∀ {t' : TypeId}, t' ≠ 73 → ∀ g cur, w.heap[g]? = some (.cells cur t' (0, 0)) → ¬ g = b := by
    intro t' ht g cur hg hgb
    exact blk_ne hg h.vol ht hgb
  refine ⟨?_, hT.kept hk (hne (by decide)) (hne (by decide)), owns_kept h.snaps hk (fun g hg => by obtain ⟨cur, hc⟩ := owns_tag h.snaps hg; exact hne (by decide) g cur hc), h.out, fun t ht => (he t ht).kept hk (hne (by decide)) (hne (by decide)), hinj⟩
  have := blk_set h.vol 1 v
  simpa using this

theorem putF_mem {R : Vol} {k : Nat} {text : ByteArray} {x : Blk} (h : x ∈ putF R k text) : x ∈ R.blocks ∨ x.2 = 0 ∨ x.2 = R.last + 1 := by
  rcases List.mem_or_eq_of_mem_set h with h | h
  · exact .inl h
  · subst h
    by_cases ht : text = ⟨#[]⟩
    · simp [ht]
    · simp [ht]
/-- The ids of a volume are no greater than its last one. -/
theorem ids_le {R : Vol} (hG : Good R) {c : Nat} (h : c ∈ allIds R) : c ≤ R.last := by
  rw [allIds, List.mem_append] at h
  rcases h with h | h
  · obtain ⟨x, hx, rfl⟩ := List.mem_map.1 h
    exact hG.ids x hx
  · obtain ⟨t, ht, hc⟩ := List.mem_flatMap.1 h
    obtain ⟨x, hx, rfl⟩ := List.mem_map.1 hc
    exact hG.sids t ht x hx
/-- A cell that is used lies in memory. -/
theorem ids_lt {w : World} {b : Nat} {ι : Nat → Nat} {R : Vol} {vn vs : Value} {sv : List SV} (hP : PRep w b ι R vn vs sv) {c : Nat} (h : c ∈ allIds R) (h0 : c ≠ 0) : ι c < w.heap.size := by
  rw [allIds, List.mem_append] at h
  rcases h with h | h
  · obtain ⟨x, hx, rfl⟩ := List.mem_map.1 h
    exact blk_lt (hP.now.cell x hx h0).2
  · obtain ⟨t, ht, hc⟩ := List.mem_flatMap.1 h
    obtain ⟨x, hx, rfl⟩ := List.mem_map.1 hc
    rw [hP.out] at ht
    obtain ⟨s, hs, rfl⟩ := List.mem_map.1 ht
    exact blk_lt ((hP.each s hs).cell x hx h0).2
theorem inj_put {w : World} {b : Nat} {ι : Nat → Nat} {R : Vol} {vn vs : Value} {sv : List SV} (hP : PRep w b ι R vn vs sv) (hG : Good R) {nb : Nat} (hnb : w.heap.size ≤ nb) (k : Nat) (text : ByteArray) :
    InjOn (upd ι (R.last + 1) nb) ((putF R k text).map (·.2) ++ R.snaps.flatMap (fun t => t.2.map (·.2))) := by
  have hcase : ∀ c ∈ (putF R k text).map (·.2) ++ R.snaps.flatMap (fun t => t.2.map (·.2)), c ≠ 0 → (c ∈ allIds R ∧ c ≠ R.last + 1) ∨ c = R.last + 1 := by
    intro c hc h0
    rw [List.mem_append] at hc
    rcases hc with hc | hc
    · obtain ⟨x, hx, rfl⟩ := List.mem_map.1 hc
      rcases putF_mem hx with h | h | h
      · have hin : x.2 ∈ allIds R := by rw [allIds, List.mem_append]; exact .inl (List.mem_map_of_mem h)
        exact .inl ⟨hin, by have := ids_le hG hin; omega⟩
      · exact absurd h h0
      · exact .inr h
    · have hin : c ∈ allIds R := by rw [allIds, List.mem_append]; exact .inr hc
      exact .inl ⟨hin, by have := ids_le hG hin; omega⟩
  intro c hc d hd hc0 hd0 he
  rcases hcase c hc hc0 with ⟨h1, h2⟩ | h1
  · rcases hcase d hd hd0 with ⟨h3, h4⟩ | h3
    · rw [upd_ne h2, upd_ne h4] at he
      exact hP.inj c h1 d h3 hc0 hd0 he
    · subst h3
      rw [upd_ne h2, upd_eq] at he
      have := ids_lt hP h1 hc0
      omega
  · rcases hcase d hd hd0 with ⟨h3, h4⟩ | h3
    · subst h1
      rw [upd_ne h4, upd_eq] at he
      have := ids_lt hP h3 hd0
      omega
    · rw [h1, h3]
/-- The snapshots' tables, with a new cell's number. -/
theorem each_upd {w w' : World} {b : Nat} {ι : Nat → Nat} {R : Vol} {vn vs : Value} {sv : List SV} (hP : PRep w b ι R vn vs sv) (hG : Good R) (nb : Nat) (hk : Kept nothing w w') : ∀ t ∈ sv, Tab w' (upd ι (R.last + 1) nb) t.2.1 t.2.2 := by
  intro t ht
  refine ((hP.each t ht).keptN hk).upd (fun x hx => ?_)
  have := hG.sids (SV.out t) (by rw [hP.out]; exact List.mem_map_of_mem ht) x hx
  omega
/-- usedWith, of some other blocks. -/
theorem usedWith_vol {w : World} {b : Nat} {ι ι' : Nat → Nat} {R : Vol} {vn vs : Value} {sv : List SV} (hP : PRep w b ι R vn vs sv) (hG : Good R) (v : Value) (bs : List Blk) (hT : Tab w ι' v bs) (he : ∀ t ∈ sv, Tab w ι' t.2.1 t.2.2) (hbl : bs.length ≤ 16) (hinj : InjOn ι' (bs.map (·.2) ++ R.snaps.flatMap (fun t => t.2.map (·.2)))) :
    Calls Tryz.prog 28 #[.agg #[v], vs] w.drew fun e w' => e = .returned (.int .i64 (usedF R bs)) ∧ Kept nothing w w' ∧ w'.cell? ⟨b, 0, none⟩ = some (.int .i64 (R.pool : Int)) := by
  have h := usedWith_any w.drew ι' v vs bs sv hP.drew.snaps hT.drew (fun t ht => (he t ht).drew) hbl (by have := hG.snaps; rw [hP.out] at this; simpa using this)
    (fun t ht => by have := hG.lens (SV.out t) (by rw [hP.out]; exact List.mem_map_of_mem ht); have h2 := hG.few; simp only [SV.out] at this; omega)
    (by rw [hP.out, ← sids_out] at hinj; exact hinj)
  rw [sids_out, ← hP.out] at h
  refine h.mono ?_
  rintro e w' ⟨rfl, hk⟩
  exact ⟨rfl, hk.of_drew, (hk.of_drew.cell hP.lt (fun h => h)).trans hP.c0⟩

set_option maxHeartbeats 2000000 in
theorem pWrite_any (b : Nat) (block : Int) (text : ByteArray) (w : World) (ι : Nat → Nat) (R : Vol) (vn vs : Value) (sv : List SV) (hP : PRep w b ι R vn vs sv) (hG : Good R)
    (hs : text.size ≤ maxLen) (hb1 : -9223372036854775808 ≤ block) (hb2 : block ≤ 9223372036854775807) :
    Calls Tryz.prog 25 #[.pointer (some ⟨b, 0, none⟩), .int .i64 block, .string text] w fun e w' => ∃ err, e = .returned err ∧ ErrRep w' err (writeF R block text).2 ∧ (∃ vn' ι', PRep w' b ι' (writeF R block text).1 vn' vs sv) ∧ Kept (fun k => k = b) w w' := by
  have HP : Hid (PRep w b ι R vn vs sv) := hP
  have HG : Hid (Good R) := hG
  have hc1 := hP.c1
  have hc0 := hP.c0
  have hlt := hP.lt
  have hfew := hG.few
  have hpool := hG.pool
  unfold maxLen at hs
  obtain ⟨va, vcap, hvv, _, _, _⟩ := owns_open hP.now.row
  obtain ⟨sa, scap, hvs, _, _, _⟩ := owns_open hP.snaps
  subst hvv hvs
  clear hP hG
  by_cases hr : block < 0 ∨ (R.blocks.length : Int) ≤ block
  · have Hf : Hid (writeF R block text = (R, 1)) := by show _ = _; rw [writeF, if_pos hr]
    have hdec : (decide (0 ≤ block) && decide (block < R.blocks.length)) = false := by
      rw [Bool.and_eq_false_iff]; simp; omega
    go_enter Tryz.func25, Tryz.ntmps25
    go_wp2_with (first | (go_at_call 50; refine (cHas_any _ _ _ _ _).mono ?_; rw [hdec]; rintro e w1 ⟨rfl, hk1⟩) | (go_at_call 30; refine (refuse_hid (by decide)).out.mono ?_; rintro e w2 ⟨err, rfl, he, hk2⟩))
    go_ret
    rw [Hf.out]
    exact ⟨_, rfl, he, ⟨_, _, HP.out.keptN (hk1.trans hk2)⟩, (hk1.trans hk2).mono (fun _ _ h => h.elim)⟩
  have hdec : (decide (0 ≤ block) && decide (block < R.blocks.length)) = true := by
    rw [Bool.and_eq_true]; simp; omega
  by_cases ht : 6 < text.size
  · have Hf : Hid (writeF R block text = (R, 2)) := by show _ = _; rw [writeF, if_neg hr, if_pos ht]
    go_enter Tryz.func25, Tryz.ntmps25
    go_wp2_with (first | (go_at_call 50; refine (cHas_any _ _ _ _ _).mono ?_; rw [hdec]; rintro e w1 ⟨rfl, hk1⟩) | (go_at_call 30; refine (refuse_hid (by decide)).out.mono ?_; rintro e w2 ⟨err, rfl, he, hk2⟩))
    go_ret
    rw [Hf.out]
    exact ⟨_, rfl, he, ⟨_, _, HP.out.keptN (hk1.trans hk2)⟩, (hk1.trans hk2).mono (fun _ _ h => h.elim)⟩
  obtain ⟨k, rfl⟩ := Int.eq_ofNat_of_zero_le (show 0 ≤ block by omega)
  have hk : k < R.blocks.length := by omega
  have Hw : Hid (writeF R (k : Int) text = if text = R.blocks[k].1 then (R, 0) else if R.pool < usedF R (putF R k text) then (R, 11) else ({ R with blocks := putF R k text, last := R.last + 1 }, 0)) := by
    show _ = _; rw [writeF, if_neg hr, if_neg ht]; simp [hk]
  clear hr
  have hszt : text.size ≤ 6 := by omega
  have Hhas : Hid (∀ W : World, Calls Tryz.prog 50 #[.agg #[.slice va R.blocks.length vcap], .int .i64 (k : Int)] W fun e w' => e = .returned (.bool true) ∧ Kept nothing W w') := by
    intro W
    have := cHas_any W va R.blocks.length vcap (k : Int)
    rw [hdec] at this
    exact this
  clear hdec
  by_cases hsame : text = R.blocks[k].1
  · have Hf : Hid (writeF R (k : Int) text = (R, 0)) := by rw [Hw.out]; show _ = _; rw [if_pos hsame]
    have Hsame : Hid (R.blocks[k].1 = text) := hsame.symm
    have hfits : usedF R R.blocks ≤ R.pool := HG.out.fits
    clear Hw hsame
    go_enter Tryz.func25, Tryz.ntmps25
    go_wp2_with fail
    refine (Hhas.out _).mono ?_
    rintro e w1 ⟨rfl, hk1⟩
    have HP1 := HP.out.keptN hk1
    have h11 := HP1.c1
    have HP1' : Hid (PRep w1 b ι R (.slice va R.blocks.length vcap) (.slice sa sv.length scap) sv) := HP1
    clear HP1
    go_wp2_with fail
    refine (cWith_same w1 ι _ R.blocks k HP1'.out.now hk hfew text Hsame.out).mono ?_
    rintro e w2 ⟨rfl, hk2⟩
    have HP2 : Hid (PRep w2 b ι R (.slice va R.blocks.length vcap) (.slice sa sv.length scap) sv) := HP1'.out.keptN hk2
    have h20 := HP2.out.c0
    have h22 := HP2.out.c2
    have hlt2 := HP2.out.lt
    go_wp2_with fail
    have HP3 : Hid (PRep (w2.alloc (.cells #[.slice va R.blocks.length vcap] 70)) b ι R (.slice va R.blocks.length vcap) (.slice sa sv.length scap) sv) := HP2.out.keptN ((Kept.refl nothing w2).alloc _)
    have Hcall : Hid (Calls Tryz.prog 28 #[.agg #[.slice va R.blocks.length vcap], .slice sa sv.length scap] (w2.alloc (.cells #[.slice va R.blocks.length vcap] 70)).drew fun e w' => e = .returned (.int .i64 (usedF R R.blocks)) ∧ Kept nothing (w2.alloc (.cells #[.slice va R.blocks.length vcap] 70)) w' ∧ w'.cell? ⟨b, 0, none⟩ = some (.int .i64 (R.pool : Int))) :=
      usedWith_vol HP3.out HG.out _ R.blocks HP3.out.now HP3.out.each hfew HP3.out.inj
    generalize usedF R R.blocks = U at hfits Hcall
    go_region_with (go_at_call 28; refine Hcall.out.mono ?_; rintro e w3 ⟨rfl, hk3, hp3⟩)
    all_goals
      have HP4 : Hid (PRep w3 b ι R (.slice va R.blocks.length vcap) (.slice sa sv.length scap) sv) := HP3.out.keptN hk3
      have h41 := HP4.out.c1
      have h4f := HP4.out.fz 1
      have hbx := blk_cell (hk3.get (heap_alloc_new w2 _) (fun h => h)) 0 rfl
      go_wp2
      go_ret
      rw [Hf.out]
      exact ⟨_, rfl, ErrRep.nil _, ⟨_, ι, prep_put HP4.out HP4.out.now HP4.out.each HP4.out.inj R.last⟩, ((((hk1.trans hk2).alloc _).trans hk3).mono (fun _ _ h => h.elim)).set_at _ _⟩
  have Hw2 : Hid (writeF R (k : Int) text = if R.pool < usedF R (putF R k text) then (R, 11) else ({ R with blocks := putF R k text, last := R.last + 1 }, 0)) := by
    rw [Hw.out]; show _ = _; rw [if_neg hsame]
  have Hne : Hid (R.blocks[k].1 ≠ text) := fun h => hsame h.symm
  clear Hw hsame
  go_enter Tryz.func25, Tryz.ntmps25
  go_wp2_with fail
  refine (Hhas.out _).mono ?_
  rintro e w1 ⟨rfl, hk1⟩
  have HP1 := HP.out.keptN hk1
  have h11 := HP1.c1
  have HP1' : Hid (PRep w1 b ι R (.slice va R.blocks.length vcap) (.slice sa sv.length scap) sv) := HP1
  clear HP1
  go_wp2_with fail
  refine (cWith_other w1 ι _ R.blocks k HP1'.out.now hk hfew text Hne.out hszt (R.last + 1) (by omega) (fun x hx => by have := HG.out.ids x hx; omega)).mono ?_
  rintro e w2 ⟨v2, rfl, nb, hnb, hT2, hk2⟩
  have hnb0 : w.heap.size ≤ nb := Nat.le_trans hk1.size hnb
  have hk02 := hk1.trans hk2
  have HP2 : Hid (PRep w2 b ι R (.slice va R.blocks.length vcap) (.slice sa sv.length scap) sv) := HP.out.keptN hk02
  have HT2 : Hid (Tab w2 (upd ι (R.last + 1) nb) v2 (putF R k text)) := hT2
  have HE2 : Hid (∀ t ∈ sv, Tab w2 (upd ι (R.last + 1) nb) t.2.1 t.2.2) := each_upd HP.out HG.out nb hk02
  have Hinj : Hid (InjOn (upd ι (R.last + 1) nb) ((putF R k text).map (·.2) ++ R.snaps.flatMap (fun t => t.2.map (·.2)))) := inj_put HP.out HG.out hnb0 k text
  have hpl : (putF R k text).length ≤ 16 := by simp [putF]; exact hfew
  have hul := usedN_le ((putF R k text).map (·.2) ++ R.snaps.flatMap (fun t => t.2.map (·.2))) (R.last + 2) (by
    intro c hc
    rw [List.mem_append] at hc
    rcases hc with hc | hc
    · obtain ⟨x, hx, rfl⟩ := List.mem_map.1 hc
      rcases putF_mem hx with h | h | h
      · have := HG.out.ids x h; omega
      · omega
      · omega
    · have := ids_le HG.out (show c ∈ allIds R by rw [allIds, List.mem_append]; exact .inr hc); omega)
  clear hT2 hul
  generalize upd ι (R.last + 1) nb = ι' at HT2 HE2 Hinj
  generalize putF R k text = bs' at HT2 Hinj hpl Hw2
  obtain ⟨a2, n2, c2, hv2⟩ := tab_slice HT2.out
  subst hv2
  have h20 := HP2.out.c0
  have h22 := HP2.out.c2
  have hlt2 := HP2.out.lt
  go_wp2_with fail
  have hka := (Kept.refl nothing w2).alloc (.cells #[.slice a2 n2 c2] 70)
  have HP3 : Hid (PRep (w2.alloc (.cells #[.slice a2 n2 c2] 70)) b ι R (.slice va R.blocks.length vcap) (.slice sa sv.length scap) sv) := HP2.out.keptN hka
  have Hcall : Hid (Calls Tryz.prog 28 #[.agg #[.slice a2 n2 c2], .slice sa sv.length scap] (w2.alloc (.cells #[.slice a2 n2 c2] 70)).drew fun e w' => e = .returned (.int .i64 (usedF R bs')) ∧ Kept nothing (w2.alloc (.cells #[.slice a2 n2 c2] 70)) w' ∧ w'.cell? ⟨b, 0, none⟩ = some (.int .i64 (R.pool : Int))) :=
    usedWith_vol HP3.out HG.out _ bs' (HT2.out.keptN hka) (fun t ht => (HE2.out t ht).keptN hka) hpl Hinj.out
  have Hf1 : Hid (R.pool < usedF R bs' → writeF R (k : Int) text = (R, 11)) := by intro h; rw [Hw2.out, if_pos h]
  have Hf2 : Hid (¬ R.pool < usedF R bs' → writeF R (k : Int) text = ({ R with blocks := bs', last := R.last + 1 }, 0)) := by intro h; rw [Hw2.out, if_neg h]
  clear Hw2
  generalize usedF R bs' = U at Hcall Hf1 Hf2
  go_region_with (go_at_call 28; refine Hcall.out.mono ?_; rintro e w3 ⟨rfl, hk3, hp3⟩)
  all_goals
    have HP4 : Hid (PRep w3 b ι R (.slice va R.blocks.length vcap) (.slice sa sv.length scap) sv) := HP3.out.keptN hk3
    have HT4 : Hid (Tab w3 ι' (.slice a2 n2 c2) bs') := (HT2.out.keptN hka).keptN hk3
    have HE4 : Hid (∀ t ∈ sv, Tab w3 ι' t.2.1 t.2.2) := fun t ht => ((HE2.out t ht).keptN hka).keptN hk3
    have h41 := HP4.out.c1
    have h4f := HP4.out.fz 1
    have hbx := blk_cell (hk3.get (heap_alloc_new w2 _) (fun h => h)) 0 rfl
    have hkA := (hk02.alloc (.cells #[.slice a2 n2 c2] 70)).trans hk3
    by_cases hfull : R.pool < U
    · go_wp2_with (go_at_call 30; refine (refuse_hid (by decide)).out.mono ?_; rintro e w5 ⟨err, rfl, he5, hk5⟩)
      go_ret
      rw [Hf1.out hfull]
      exact ⟨_, rfl, he5, ⟨_, ι, HP4.out.keptN hk5⟩, (hkA.trans hk5).mono (fun _ _ h => h.elim)⟩
    · go_wp2
      go_ret
      rw [Hf2.out hfull]
      exact ⟨_, rfl, ErrRep.nil _, ⟨_, ι', prep_put HP4.out HT4.out HE4.out Hinj.out (R.last + 1)⟩, (hkA.mono (fun _ _ h => h.elim)).set_at _ _⟩
end Go.Proofs.YtdnjfjdhkmngjaaGreatDoor
