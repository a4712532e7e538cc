import Derived.Test.YtdnjfjdhkmngjaaGreatDoorC
import Derived.Deep.RegionWith
import Derived.BigRegion
import Derived.BigCall
namespace Go.Proofs.YtdnjfjdhkmngjaaGreatDoor
open Go.RowKit

/-- 'used', of some blocks and the volume's snapshots. -/
theorem rused_vol (a : Nat) (w : World) (R : Vol) (vb vs : Value) (sv : List SV) (hR : RRep w a R vb vs sv) (hG : Good R) (hlast : R.last + 100 ≤ 140737488355328)
    (v : Value) (bs : List Blk) (hbs : w.ownsRow 0 173 2 v bs.length (rcells bs)) (hid : ∀ x ∈ bs, x.2 ≤ R.last + 1) :
    Calls Tryz.prog 91 #[.pointer (some ⟨a, 0, none⟩), v, vs] w.drew fun e w' => e = .returned (.int .i64 (usedF R bs)) ∧ Kept nothing w w' ∧ w'.cell? ⟨a, 0, none⟩ = some (.int .i64 (R.pool : Int)) := by
  refine (rused_any a R.last w.drew v vs bs sv hR.c3 hlast hbs hR.snaps hR.each hid ?_).mono ?_
  · intro t ht x hx
    have := hG.sids (SV.out t) (by rw [hR.out]; exact List.mem_map_of_mem ht) x hx
    omega
  · rintro e w' ⟨rfl, hk⟩
    refine ⟨ret_int ?_, hk.of_drew, (hk.of_drew.cell hR.lt (fun h => h)).trans hR.c0⟩
    rw [usedF, hR.out, ← sids_out]

set_option maxHeartbeats 400000 in
theorem rUsed_any (a : Nat) (w : World) (R : Vol) (vb vs : Value) (sv : List SV) (hR : RRep w a R vb vs sv) (hG : Good R) (hlast : R.last + 100 ≤ 140737488355328) :
    Calls Tryz.prog 67 #[.pointer (some ⟨a, 0, none⟩)] w fun e w' => e = .returned (.int .i64 (usedF R R.blocks)) ∧ Kept nothing w w' := by
  have hv1 := hR.c1
  have hv2 := hR.c2
  have HR : Hid (RRep w a R vb vs sv) := hR
  have HG : Hid (Good R) := hG
  have Hcall : Hid (Calls Tryz.prog 91 #[.pointer (some ⟨a, 0, none⟩), vb, vs] w.drew fun e w' => e = .returned (.int .i64 (usedF R R.blocks)) ∧ Kept nothing w w' ∧ w'.cell? ⟨a, 0, none⟩ = some (.int .i64 (R.pool : Int))) :=
    rused_vol a w R vb vs sv hR hG hlast vb R.blocks hR.blocks (fun x hx => by have := hG.ids x hx; omega)
  obtain ⟨ba, bcap, rfl, hbn, hbm, hbc⟩ := owns_open hR.blocks
  obtain ⟨sa, scap, rfl, hsn, hsm, hsc⟩ := owns_open hR.snaps
  clear hR hG hbc hsc
  go_enter Tryz.func67, Tryz.ntmps67
  go_wp2
  go_region_with (go_at_call 91; refine Hcall.out.mono ?_; rintro e w' ⟨rfl, hk, hp⟩)
  all_goals (go_wp2; go_ret; exact ⟨rfl, hk⟩)

/-- A small range of a number. -/
theorem usedF_le (R : Vol) (bs : List Blk) (hG : Good R) (hid : ∀ x ∈ bs, x.2 ≤ R.last + 1) : usedF R bs ≤ R.last + 2 := by
  refine usedN_le _ _ ?_
  intro x hx
  rw [List.mem_append] at hx
  rcases hx with hx | hx
  · simp only [List.mem_map] at hx
    obtain ⟨b, hb, rfl⟩ := hx
    have := hid b hb; omega
  · simp only [List.mem_flatMap, List.mem_map] at hx
    obtain ⟨t, ht, b, hb, rfl⟩ := hx
    have := hG.sids t ht b hb; omega

/-- The volume's blocks are put in. -/
theorem rrep_put {w : World} {a : Nat} {R : Vol} {vb vs v : Value} {sv : List SV} {n : Nat} {bs : List Blk} (h : RRep w a R vb vs sv) (hrow : w.ownsRow 0 173 2 v n (rcells bs)) (hn : bs.length = n) :
    RRep ((w.setCell ⟨a, 1, none⟩ v).setCell ⟨a, 3, none⟩ (.int .i64 ((R.last : Int) + 1))) a { R with blocks := bs, last := R.last + 1 } v vs sv := by
  subst hn
  have hk : Kept (fun k => k = a) w ((w.setCell ⟨a, 1, none⟩ v).setCell ⟨a, 3, none⟩ (.int .i64 ((R.last : Int) + 1))) := ((Kept.refl _ w).set_at _ _).set_at _ _
  have hne : ∀ {e size : Nat} {x : Value} {m : Nat} {xs : List Value}, w.ownsRow 0 e size x m xs → e ≠ 141 → ∀ g, x.ownBlock = some g → ¬ g = a := by
    intro e size x m xs ho he g hg hga
    obtain ⟨cur, hc⟩ := owns_tag ho hg
    exact blk_ne hc h.vol he hga
  refine ⟨?_, owns_kept hrow hk (hne hrow (by decide)), owns_kept h.snaps hk (hne h.snaps (by decide)), h.out, fun t ht => owns_kept (h.each t ht) hk (hne (h.each t ht) (by decide))⟩
  have := blk_set (blk_set h.vol 1 v) 3 (.int .i64 ((R.last : Int) + 1))
  simpa using this

set_option maxHeartbeats 1000000 in
theorem rWrite_any (a : Nat) (block : Int) (text : ByteArray) (w : World) (R : Vol) (vb vs : Value) (sv : List SV) (hR : RRep w a R vb vs sv) (hG : Good R) (hlast : R.last + 100 ≤ 140737488355328)
    (hs : text.size ≤ maxLen) (hb1 : -9223372036854775808 ≤ block) (hb2 : block ≤ 9223372036854775807) :
    Calls Tryz.prog 70 #[.pointer (some ⟨a, 0, none⟩), .int .i64 block, .string text] w fun e w' => e = .returned (.int .i64 (writeF R block text).2) ∧ (∃ vb', RRep w' a (writeF R block text).1 vb' vs sv) ∧ Kept (fun k => k = a) w w' := by
  have hv1 := hR.c1
  have hv2 := hR.c2
  have hfew := hG.few
  unfold maxLen at hs
  have HR : Hid (RRep w a R vb vs sv) := hR
  have HG : Hid (Good R) := hG
  obtain ⟨ba, bcap, rfl, hbn, hbm, hbc⟩ := owns_open hR.blocks
  unfold maxLen at hbm
  clear hR hG
  by_cases hr : block < 0 ∨ (R.blocks.length : Int) ≤ block
  · have Hf : Hid (writeF R block text = (R, 1)) := by show _ = _; rw [writeF, if_pos hr]
    clear hbc
    rcases Int.lt_or_le block 0 with h0 | h0
    all_goals
      go_enter Tryz.func70, Tryz.ntmps70
      go_wp2
      go_ret
      rw [Hf.out]
      exact ⟨rfl, ⟨_, HR.out⟩, Kept.refl _ _⟩
  by_cases ht : 6 < text.size
  · have Hf : Hid (writeF R block text = (R, 2)) := by show _ = _; rw [writeF, if_neg hr, if_pos ht]
    clear hbc
    go_enter Tryz.func70, Tryz.ntmps70
    go_wp2
    go_ret
    rw [Hf.out]
    exact ⟨rfl, ⟨_, HR.out⟩, Kept.refl _ _⟩
  obtain ⟨k, rfl⟩ := Int.eq_ofNat_of_zero_le (show 0 ≤ block by omega)
  have hk : k < R.blocks.length := by omega
  obtain ⟨g, rfl, hg, hc⟩ := hbc (by omega)
  have hx : R.blocks[k]? = some R.blocks[k] := by simp
  have hc0 := hc (k * 2) _ (pairs_get (fun b : Blk => .string b.1) (fun b => .int .i64 (b.2 : Int)) R.blocks k _ hx).1
  have Hw : Hid (writeF R (k : Int) text = if text = R.blocks[k].1 then (R, 0) else if R.pool < usedF R (putF R k text) then (R, 11) else ({ R with blocks := putF R k text, last := R.last + 1 }, 0)) := by
    show _ = _; rw [writeF, if_neg hr, if_neg ht]; simp [hk]
  clear hc hbc hx hr
  by_cases he : text = R.blocks[k].1
  · have Hf : Hid (writeF R (k : Int) text = (R, 0)) := by rw [Hw.out]; show _ = _; rw [if_pos he]
    have hE := str_yes he
    clear he
    go_enter Tryz.func70, Tryz.ntmps70
    go_wp2
    go_ret
    rw [Hf.out]
    exact ⟨rfl, ⟨_, HR.out⟩, Kept.refl _ _⟩
  have hE := str_no he
  have Hw2 : Hid (writeF R (k : Int) text = if R.pool < usedF R (putF R k text) then (R, 11) else ({ R with blocks := putF R k text, last := R.last + 1 }, 0)) := by
    rw [Hw.out]; show _ = _; rw [if_neg he]
  clear Hw he
  go_enter Tryz.func70, Tryz.ntmps70
  go_wp2_with fail
  refine (copied_any w _ R.blocks HR.out.blocks HG.out.some HG.out.few).mono ?_
  rintro e w1 ⟨v', rfl, how, hk1⟩
  have HR1 : Hid (RRep w1 a R _ vs sv) := HR.out.kept hk1 (fun h => h) (fun _ _ h => h) (fun _ _ _ h => h)
  obtain ⟨g1, cap1, rfl, hg1, hg1', hn1, hm1⟩ := owns_parts how (by omega)
  have how0 := owns_weaken how
  have hx : R.blocks[k]? = some R.blocks[k] := by simp
  have hpg := pairs_get (fun b : Blk => .string b.1) (fun b => .int .i64 (b.2 : Int)) R.blocks k _ hx
  have hd0 := owns_cell how0 hpg.1
  have hd1 := owns_cell how0 hpg.2
  have hz0 := owns_frozen how0 (k * 2)
  have hz1 := owns_frozen how0 (k * 2 + 1)
  have hw3 := HR1.out.c3
  have hw2 := HR1.out.c2
  have hw0 := HR1.out.c0
  have hne : Hid (a < w.heap.size) := HR.out.lt
  have How : Hid (w1.ownsRow 0 173 2 (.slice (some ⟨g1, 0, none⟩) R.blocks.length cap1) R.blocks.length (rcells R.blocks)) := how0
  have hag : a ≠ g1 := by have := hne.out; omega
  clear how how0 hpg hx
  by_cases hemp : text = ⟨#[]⟩
  · have hEm : text.toList.isEmpty = true := by rw [str_empty]; simp [hemp]
    have Hput : Hid (putF R k text = R.blocks.set k (text, 0)) := by show _ = _; rw [putF, if_pos hemp]
    clear hemp
    go_wp2
    have hk2 : Kept nothing w ((w1.setCell ⟨g1, k * 2, none⟩ (.string text)).setCell ⟨g1, k * 2 + 1, none⟩ (.int .i64 0)) := (hk1.setCell (.inr hg1) _).setCell (.inr hg1) _
    have hrow : Hid (((w1.setCell ⟨g1, k * 2, none⟩ (.string text)).setCell ⟨g1, k * 2 + 1, none⟩ (.int .i64 0)).ownsRow 0 173 2 (.slice (some ⟨g1, 0, none⟩) R.blocks.length cap1) R.blocks.length (rcells (putF R k text))) := by
      rw [Hput.out, rcells_set]
      exact owns_set (owns_set How.out _ _) _ _
    generalize (w1.setCell ⟨g1, k * 2, none⟩ (.string text)).setCell ⟨g1, k * 2 + 1, none⟩ (.int .i64 0) = w2 at hk2 hrow ⊢
    have HW : Hid (RRep w2 a R (.slice (some ⟨g, 0, none⟩) R.blocks.length bcap) vs sv) := HR.out.kept hk2 (fun h => h) (fun _ _ h => h) (fun _ _ _ h => h)
    have Hid2 : Hid (∀ x ∈ putF R k text, x.2 ≤ R.last + 1) := by
      show ∀ x ∈ putF R k text, x.2 ≤ R.last + 1
      rw [Hput.out]
      intro x hx
      rcases List.mem_or_eq_of_mem_set hx with h | h
      · have := HG.out.ids x h; omega
      · subst h; simp
    have Hcall : Hid (Calls Tryz.prog 91 #[.pointer (some ⟨a, 0, none⟩), .slice (some ⟨g1, 0, none⟩) R.blocks.length cap1, vs] w2.drew fun e w' => e = .returned (.int .i64 (usedF R (putF R k text))) ∧ Kept nothing w2 w' ∧ w'.cell? ⟨a, 0, none⟩ = some (.int .i64 (R.pool : Int))) :=
      rused_vol a w2 R _ vs sv HW.out HG.out hlast _ (putF R k text) (by rw [show (putF R k text).length = R.blocks.length by simp [putF]]; exact hrow.out) Hid2.out
    have hul := usedF_le R (putF R k text) HG.out Hid2.out
    have hpl := HG.out.pool
    have hw2' := HW.out.c2
    have hw0' := HW.out.c0
    have hl2 : (putF R k text).length = R.blocks.length := by simp [putF]
    have Hl2 : Hid ((putF R k text).length = R.blocks.length) := hl2
    generalize putF R k text = bs' at Hw2 hrow Hcall hul Hl2
    clear Hput Hid2 hl2 hd0 hd1 hz0 hz1 hw3 hw2 hw0 hv1 hv2 hc0 hE hEm
    obtain ⟨sa, scap, rfl, hsn, hsm, hsc⟩ := owns_open HW.out.snaps
    clear hsc
    generalize hU : usedF R bs' = U at Hw2 Hcall hul
    clear hU
    have Hf1 : Hid (R.pool < U → writeF R (k : Int) text = (R, 11)) := by intro h; rw [Hw2.out, if_pos h]
    have Hf2 : Hid (¬ R.pool < U → writeF R (k : Int) text = ({ R with blocks := bs', last := R.last + 1 }, 0)) := by intro h; rw [Hw2.out, if_neg h]
    clear Hw2
    go_region_with (go_at_call 91; refine Hcall.out.mono ?_; rintro e w3 ⟨rfl, hk3, hp3⟩)
    all_goals
      have HW3 : Hid (RRep w3 a R (.slice (some ⟨g, 0, none⟩) R.blocks.length bcap) (.slice sa sv.length scap) sv) := HW.out.kept hk3 (fun h => h) (fun _ _ h => h) (fun _ _ _ h => h)
      have hrow3 : Hid (w3.ownsRow 0 173 2 (.slice (some ⟨g1, 0, none⟩) R.blocks.length cap1) R.blocks.length (rcells bs')) := owns_kept hrow.out hk3 (fun _ _ h => h)
      have h31 := HW3.out.c1
      have h33 := HW3.out.c3
      have hf1 := HW3.out.fz 1
      have hf3 := HW3.out.fz 3
      by_cases hfull : R.pool < U
      · go_wp2
        go_ret
        rw [Hf1.out hfull]
        exact ⟨rfl, ⟨_, HW3.out⟩, (hk2.trans hk3).mono (fun _ _ h => h.elim)⟩
      · go_wp2
        go_ret
        rw [Hf2.out hfull]
        refine ⟨rfl, ⟨.slice (some ⟨g1, 0, none⟩) R.blocks.length cap1, ?_⟩, (((hk2.trans hk3).mono (fun _ _ h => h.elim)).set_at _ _).set_at _ _⟩
        exact rrep_put HW3.out hrow3.out Hl2.out
  · have hEm : text.toList.isEmpty = false := by rw [str_empty]; simp [hemp]
    have Hput : Hid (putF R k text = R.blocks.set k (text, R.last + 1)) := by show _ = _; rw [putF, if_neg hemp]
    clear hemp
    go_wp2
    have hk2 : Kept nothing w (((w1.setCell ⟨g1, k * 2, none⟩ (.string text)).setCell ⟨g1, k * 2 + 1, none⟩ (.int .i64 0)).setCell ⟨g1, k * 2 + 1, none⟩ (.int .i64 ((R.last : Int) + 1))) := ((hk1.setCell (.inr hg1) _).setCell (.inr hg1) _).setCell (.inr hg1) _
    have hrow : Hid ((((w1.setCell ⟨g1, k * 2, none⟩ (.string text)).setCell ⟨g1, k * 2 + 1, none⟩ (.int .i64 0)).setCell ⟨g1, k * 2 + 1, none⟩ (.int .i64 ((R.last : Int) + 1))).ownsRow 0 173 2 (.slice (some ⟨g1, 0, none⟩) R.blocks.length cap1) R.blocks.length (rcells (putF R k text))) := by
      rw [Hput.out, rcells_set]
      have h := owns_set (owns_set (owns_set How.out (k * 2) (.string text)) (k * 2 + 1) (.int .i64 0)) (k * 2 + 1) (.int .i64 ((R.last : Int) + 1))
      rw [List.set_set] at h
      exact h
    generalize ((w1.setCell ⟨g1, k * 2, none⟩ (.string text)).setCell ⟨g1, k * 2 + 1, none⟩ (.int .i64 0)).setCell ⟨g1, k * 2 + 1, none⟩ (.int .i64 ((R.last : Int) + 1)) = w2 at hk2 hrow ⊢
    have HW : Hid (RRep w2 a R (.slice (some ⟨g, 0, none⟩) R.blocks.length bcap) vs sv) := HR.out.kept hk2 (fun h => h) (fun _ _ h => h) (fun _ _ _ h => h)
    have Hid2 : Hid (∀ x ∈ putF R k text, x.2 ≤ R.last + 1) := by
      show ∀ x ∈ putF R k text, x.2 ≤ R.last + 1
      rw [Hput.out]
      intro x hx
      rcases List.mem_or_eq_of_mem_set hx with h | h
      · have := HG.out.ids x h; omega
      · subst h; simp
    have Hcall : Hid (Calls Tryz.prog 91 #[.pointer (some ⟨a, 0, none⟩), .slice (some ⟨g1, 0, none⟩) R.blocks.length cap1, vs] w2.drew fun e w' => e = .returned (.int .i64 (usedF R (putF R k text))) ∧ Kept nothing w2 w' ∧ w'.cell? ⟨a, 0, none⟩ = some (.int .i64 (R.pool : Int))) :=
      rused_vol a w2 R _ vs sv HW.out HG.out hlast _ (putF R k text) (by rw [show (putF R k text).length = R.blocks.length by simp [putF]]; exact hrow.out) Hid2.out
    have hul := usedF_le R (putF R k text) HG.out Hid2.out
    have hpl := HG.out.pool
    have hw2' := HW.out.c2
    have hw0' := HW.out.c0
    have hl2 : (putF R k text).length = R.blocks.length := by simp [putF]
    have Hl2 : Hid ((putF R k text).length = R.blocks.length) := hl2
    generalize putF R k text = bs' at Hw2 hrow Hcall hul Hl2
    clear Hput Hid2 hl2 hd0 hd1 hz0 hz1 hw3 hw2 hw0 hv1 hv2 hc0 hE hEm
    obtain ⟨sa, scap, rfl, hsn, hsm, hsc⟩ := owns_open HW.out.snaps
    clear hsc
    generalize hU : usedF R bs' = U at Hw2 Hcall hul
    clear hU
    have Hf1 : Hid (R.pool < U → writeF R (k : Int) text = (R, 11)) := by intro h; rw [Hw2.out, if_pos h]
    have Hf2 : Hid (¬ R.pool < U → writeF R (k : Int) text = ({ R with blocks := bs', last := R.last + 1 }, 0)) := by intro h; rw [Hw2.out, if_neg h]
    clear Hw2
    go_region_with (go_at_call 91; refine Hcall.out.mono ?_; rintro e w3 ⟨rfl, hk3, hp3⟩)
    all_goals
      have HW3 : Hid (RRep w3 a R (.slice (some ⟨g, 0, none⟩) R.blocks.length bcap) (.slice sa sv.length scap) sv) := HW.out.kept hk3 (fun h => h) (fun _ _ h => h) (fun _ _ _ h => h)
      have hrow3 : Hid (w3.ownsRow 0 173 2 (.slice (some ⟨g1, 0, none⟩) R.blocks.length cap1) R.blocks.length (rcells bs')) := owns_kept hrow.out hk3 (fun _ _ h => h)
      have h31 := HW3.out.c1
      have h33 := HW3.out.c3
      have hf1 := HW3.out.fz 1
      have hf3 := HW3.out.fz 3
      by_cases hfull : R.pool < U
      · go_wp2
        go_ret
        rw [Hf1.out hfull]
        exact ⟨rfl, ⟨_, HW3.out⟩, (hk2.trans hk3).mono (fun _ _ h => h.elim)⟩
      · go_wp2
        go_ret
        rw [Hf2.out hfull]
        refine ⟨rfl, ⟨.slice (some ⟨g1, 0, none⟩) R.blocks.length cap1, ?_⟩, (((hk2.trans hk3).mono (fun _ _ h => h.elim)).set_at _ _).set_at _ _⟩
        exact rrep_put HW3.out hrow3.out Hl2.out
end Go.Proofs.YtdnjfjdhkmngjaaGreatDoor
