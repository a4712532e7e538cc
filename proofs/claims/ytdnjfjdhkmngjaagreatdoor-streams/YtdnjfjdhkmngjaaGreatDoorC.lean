import Derived.Test.YtdnjfjdhkmngjaaGreatDoorA
import Derived.Test.YtdnjfjdhkmngjaaGreatDoorB
import Derived.Test.YtdnjfjdhkmngjaaGreatDoorM3
import Derived.WalkKit
import Derived.WalkSpells
import Derived.WalkLawsBesides
namespace Go.Proofs.YtdnjfjdhkmngjaaGreatDoor
open Go.RowKit

theorem und_rblocks : Tryz.prog.underlying 138 = some (.slice 173) := by kernel_rfl
theorem info_rblock : (Tryz.prog.info? 173).map (fun i => (i.zero, i.size, i.bytes)) = some (some (.agg #[.string ⟨#[]⟩, .int .i64 0]), 2, 24) := by kernel_rfl
theorem und_rsnaps : Tryz.prog.underlying 139 = some (.slice 143) := by kernel_rfl
theorem info_rsnap : (Tryz.prog.info? 143).map (fun i => (i.zero, i.size, i.bytes)) = some (some (.agg #[.string ⟨#[]⟩, .slice none 0 0]), 2, 40) := by kernel_rfl

theorem rcells_one (bs : List Blk) : ∀ u ∈ rcells bs, u.oneCell' = true := by
  intro u hu
  simp only [rcells, List.mem_flatMap] at hu
  obtain ⟨b, _, hb⟩ := hu
  simp at hb
  rcases hb with rfl | rfl <;> rfl

set_option maxHeartbeats 400000 in
theorem copied_any (w : World) (v : Value) (bs : List Blk) (hbs : w.ownsRow 0 173 2 v bs.length (rcells bs)) (h1 : 1 ≤ bs.length) (h2 : bs.length ≤ 16) :
    Calls Tryz.prog 95 #[v] w fun e w' => ∃ v', e = .returned v' ∧ w'.ownsRow w.heap.size 173 2 v' bs.length (rcells bs) ∧ Kept nothing w w' := by
  obtain ⟨ba, bcap, rfl, hbn, hbm, hbc⟩ := owns_open hbs
  obtain ⟨g, rfl, hg, hc⟩ := hbc h1
  have Hbs : Hid (w.ownsRow 0 173 2 (.slice (some ⟨g, 0, none⟩) bs.length bcap) bs.length (rcells bs)) := hbs
  clear hbs hbc hc
  go_enter Tryz.func95, Tryz.ntmps95
  go_wp2_with (at_builtin; refine wp_append _ _ _ 2 24 und_rblocks info_rblock rfl (by decide) (by decide) _ rfl _ _ rfl w.heap.size (.slice none 0 0) 0 [] rfl (World.ownsRow_nil _ _ _ _) ⟨g, 0, none⟩ bs.length bcap (rcells bs) rfl (rcells_len bs) (fun j u hu => owns_cell_at Hbs.out hu) (rcells_one bs) (by omega) (Nat.le_refl _) ?_)
  intro v' w' ho hgr _
  go_wp2
  go_ret
  exact ⟨_, rfl, ho, (Kept.refl nothing w).grown hgr (by simp [Value.ownBlock])⟩

set_option maxHeartbeats 400000 in
theorem fresh_any (a : Nat) (name : ByteArray) (w : World) (R : Vol) (vb vs : Value) (sv : List SV) (hR : RRep w a R vb vs sv) :
    Calls Tryz.prog 96 #[.pointer (some ⟨a, 0, none⟩), .string name] w fun e w' => e = .returned (.int .i64 (freshF R name)) ∧ w' = w := by
  have hv := hR.c2
  have HR : Hid (RRep w a R vb vs sv) := hR
  obtain ⟨sa, scap, rfl, hsnn, hsm, hsc⟩ := owns_open hR.snaps
  have Hl : Hid (R.snaps.length = sv.length) := by rw [hR.out]; show _ = _; simp
  unfold maxLen at hsm
  have Hf : Hid (freshF R name = if 0 ≤ findF (sv.map SV.out) name then 5 else if 6 ≤ sv.length then 6 else 0) := by
    show _ = _; rw [freshF, hR.out]; simp
  clear hR hsc
  have hcall := rfind_any a name w _ sv HR.out.c2 HR.out.snaps
  have Hcall : Hid (Calls Tryz.prog 90 #[.pointer (some ⟨a, 0, none⟩), .string name] w fun e w' => e = .returned (.int .i64 (findF (sv.map SV.out) name)) ∧ w' = w) := hcall
  clear hcall
  generalize findF (sv.map SV.out) name = fd at Hf Hcall
  by_cases h0 : 0 ≤ fd
  · go_enter Tryz.func96, Tryz.ntmps96
    go_wp2_with (go_at_call 90; refine Hcall.out.mono ?_; rintro e w' ⟨rfl, rfl⟩)
    go_ret
    exact ⟨ret_int (by rw [Hf.out, if_pos h0]), rfl⟩
  · by_cases h6 : 6 ≤ sv.length
    · go_enter Tryz.func96, Tryz.ntmps96
      go_wp2_with (go_at_call 90; refine Hcall.out.mono ?_; rintro e w' ⟨rfl, rfl⟩)
      go_ret
      exact ⟨ret_int (by rw [Hf.out, if_neg (by omega), if_pos h6]), rfl⟩
    · go_enter Tryz.func96, Tryz.ntmps96
      go_wp2_with (go_at_call 90; refine Hcall.out.mono ?_; rintro e w' ⟨rfl, rfl⟩)
      go_ret
      exact ⟨ret_int (by rw [Hf.out, if_neg (by omega), if_neg h6]), rfl⟩

theorem ret2 {a c : Value} {b d : Value} (h : a = c) (h' : b = d) : Ending.returned (.tuple #[a, b]) = .returned (.tuple #[c, d]) := by rw [h, h']
/-- A text of a block that is there. -/
theorem readB_ok (l : List Blk) (block : Int) (h0 : 0 ≤ block) (h1 : block < l.length) : ∃ k : Nat, ∃ hk : k < l.length, block = (k : Int) ∧ readB l block = (l[k].1, 0) := by
  obtain ⟨k, rfl⟩ := Int.eq_ofNat_of_zero_le h0
  have hk : k < l.length := by omega
  refine ⟨k, hk, rfl, ?_⟩
  simp only [readB]
  rw [if_neg (by omega)]
  simp [hk]
theorem readB_no (l : List Blk) (block : Int) (h : block < 0 ∨ (l.length : Int) ≤ block) : readB l block = (⟨#[]⟩, 1) := by
  simp only [readB]; rw [if_pos h]

set_option maxHeartbeats 400000 in
theorem rRead_any (a : Nat) (name : ByteArray) (block : Int) (w : World) (R : Vol) (vb vs : Value) (sv : List SV) (hR : RRep w a R vb vs sv) (hs : name.size ≤ maxLen) (hb1 : -9223372036854775808 ≤ block) (hb2 : block ≤ 9223372036854775807) :
    Calls Tryz.prog 66 #[.pointer (some ⟨a, 0, none⟩), .string name, .int .i64 block] w fun e w' => e = .returned (.tuple #[.string (readF R name block).1, .int .i64 (readF R name block).2]) ∧ w' = w := by
  have hv1 := hR.c1
  have hv2 := hR.c2
  have HR : Hid (RRep w a R vb vs sv) := hR
  have Hn : Hid (Calls Tryz.prog 89 #[.string name] w fun e w' => e = .returned (.bool (nameB name)) ∧ w' = w) := rName_any name w hs
  have Hcall : Hid (Calls Tryz.prog 90 #[.pointer (some ⟨a, 0, none⟩), .string name] w fun e w' => e = .returned (.int .i64 (findF (sv.map SV.out) name)) ∧ w' = w) := rfind_any a name w _ sv hR.c2 hR.snaps
  clear hR
  by_cases he : name = ⟨#[]⟩
  · have hE : name.toList.isEmpty = true := by rw [str_empty]; simp [he]
    have Hf : Hid (readF R name block = readB R.blocks block) := by show _ = _; rw [readF, if_pos he]
    have hnb : nameB name = false := by rw [he]; rfl
    rw [hnb] at Hn
    obtain ⟨ba, bcap, rfl, hbn, hbm, hbc⟩ := owns_open HR.out.blocks
    unfold maxLen at hbm
    clear he hnb
    by_cases hr : block < 0 ∨ (R.blocks.length : Int) ≤ block
    · have Hf2 : Hid (readF R name block = (⟨#[]⟩, 1)) := by rw [Hf.out]; exact readB_no _ _ hr
      clear hbc
      rcases Int.lt_or_le block 0 with h0 | h0
      all_goals
        go_enter Tryz.func66, Tryz.ntmps66
        go_wp2_with (go_at_call 89; refine Hn.out.mono ?_; rintro e w' ⟨rfl, rfl⟩)
        go_ret2
        exact ⟨ret2 (by rw [Hf2.out]; rfl) (by rw [Hf2.out]; rfl), rfl⟩
    · obtain ⟨k, hk, rfl, hrd⟩ := readB_ok R.blocks block (by omega) (by omega)
      obtain ⟨g, rfl, hg, hc⟩ := hbc (by omega)
      have hx : R.blocks[k]? = some R.blocks[k] := by simp
      have hc0 := hc (k * 2) _ (pairs_get (fun b : Blk => .string b.1) (fun b => .int .i64 (b.2 : Int)) R.blocks k _ hx).1
      have Hf2 : Hid (readF R name k = (R.blocks[k].1, 0)) := by rw [Hf.out]; exact hrd
      clear hc hbc hrd hr
      go_enter Tryz.func66, Tryz.ntmps66
      go_wp2_with (go_at_call 89; refine Hn.out.mono ?_; rintro e w' ⟨rfl, rfl⟩)
      go_ret2
      exact ⟨ret2 (by rw [Hf2.out]; rfl) (by rw [Hf2.out]; rfl), rfl⟩
  · have hE : name.toList.isEmpty = false := by rw [str_empty]; simp [he]
    by_cases hnb : nameB name = false
    · have Hf2 : Hid (readF R name block = (⟨#[]⟩, 3)) := by show _ = _; rw [readF, if_neg he, if_pos hnb]
      rw [hnb] at Hn
      clear he hnb
      go_enter Tryz.func66, Tryz.ntmps66
      go_wp2_with (go_at_call 89; refine Hn.out.mono ?_; rintro e w' ⟨rfl, rfl⟩)
      go_ret2
      exact ⟨ret2 (by rw [Hf2.out]; rfl) (by rw [Hf2.out]; rfl), rfl⟩
    · have hnb' : nameB name = true := by simpa using hnb
      rw [hnb'] at Hn
      have Hf : Hid (readF R name block = if findF (sv.map SV.out) name < 0 then (⟨#[]⟩, 4) else readB ((sv.map SV.out)[(findF (sv.map SV.out) name).toNat]?.getD (⟨#[]⟩, [])).2 block) := by
        show _ = _; rw [readF, if_neg he, if_neg hnb, HR.out.out]
      have hfr := findF_range (sv.map SV.out) name
      clear he hnb hnb'
      generalize findF (sv.map SV.out) name = fd at Hf Hcall hfr
      simp only [List.length_map] at hfr
      obtain ⟨sa, scap, rfl, hsnn, hsm, hsc⟩ := owns_open HR.out.snaps
      unfold maxLen at hsm
      obtain ⟨ba, bcap, rfl, hbn, hbm, hbc⟩ := owns_open HR.out.blocks
      clear hbc
      by_cases hfd : fd < 0
      · have Hf2 : Hid (readF R name block = (⟨#[]⟩, 4)) := by rw [Hf.out]; show _ = _; rw [if_pos hfd]
        clear hsc
        go_enter Tryz.func66, Tryz.ntmps66
        go_wp2_with (first | (go_at_call 89; refine Hn.out.mono ?_; rintro e w' ⟨rfl, rfl⟩) | (go_at_call 90; refine Hcall.out.mono ?_; rintro e w' ⟨rfl, rfl⟩))
        go_ret2
        exact ⟨ret2 (by rw [Hf2.out]; rfl) (by rw [Hf2.out]; rfl), rfl⟩
      · obtain ⟨q, rfl⟩ := Int.eq_ofNat_of_zero_le (show 0 ≤ fd by omega)
        have hq : q < sv.length := by omega
        obtain ⟨gs, rfl, hgs, hcs⟩ := hsc (by omega)
        have hx : sv[q]? = some sv[q] := by simp
        have hcq := hcs (q * 2 + 1) _ (pairs_get (fun t : SV => .string t.1) (fun t => t.2.1) sv q _ hx).2
        have hev := HR.out.each sv[q] (by simp)
        have Hf1 : Hid (readF R name block = readB sv[q].2.2 block) := by rw [Hf.out]; show _ = _; rw [if_neg hfd]; simp [hq, SV.out]
        generalize sv[q].2.2 = ts at hev Hf1
        generalize sv[q].2.1 = tv at hcq hev
        obtain ⟨ta, tcap, rfl, htn, htm, htc⟩ := owns_open hev
        unfold maxLen at htm
        clear hcs hsc hx hev Hf hfd
        by_cases hr : block < 0 ∨ (ts.length : Int) ≤ block
        · have Hf2 : Hid (readF R name block = (⟨#[]⟩, 1)) := by rw [Hf1.out]; exact readB_no _ _ hr
          clear htc
          rcases Int.lt_or_le block 0 with h0 | h0
          all_goals
            go_enter Tryz.func66, Tryz.ntmps66
            go_wp2_with (first | (go_at_call 89; refine Hn.out.mono ?_; rintro e w' ⟨rfl, rfl⟩) | (go_at_call 90; refine Hcall.out.mono ?_; rintro e w' ⟨rfl, rfl⟩))
            go_ret2
            exact ⟨ret2 (by rw [Hf2.out]; rfl) (by rw [Hf2.out]; rfl), rfl⟩
        · obtain ⟨k, hk, rfl, hrd⟩ := readB_ok ts block (by omega) (by omega)
          obtain ⟨g, rfl, hg, hc⟩ := htc (by omega)
          have hx : ts[k]? = some ts[k] := by simp
          have hc0 := hc (k * 2) _ (pairs_get (fun b : Blk => .string b.1) (fun b => .int .i64 (b.2 : Int)) ts k _ hx).1
          have Hf2 : Hid (readF R name k = (ts[k].1, 0)) := by rw [Hf1.out]; exact hrd
          clear hc htc hrd hr
          go_enter Tryz.func66, Tryz.ntmps66
          go_wp2_with (first | (go_at_call 89; refine Hn.out.mono ?_; rintro e w' ⟨rfl, rfl⟩) | (go_at_call 90; refine Hcall.out.mono ?_; rintro e w' ⟨rfl, rfl⟩))
          go_ret2
          exact ⟨ret2 (by rw [Hf2.out]; rfl) (by rw [Hf2.out]; rfl), rfl⟩
end Go.Proofs.YtdnjfjdhkmngjaaGreatDoor
