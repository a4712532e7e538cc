import Derived.Test.YtdnjfjdhkmngjaaGreatDoorYA
import Derived.Test.YtdnjfjdhkmngjaaGreatDoorA
import Derived.Deep.RegionHeld
namespace Go.Proofs.YtdnjfjdhkmngjaaGreatDoor
open Go.RowKit

theorem sndcells_get (l : List SS) (i : Nat) (s : SS) (h : l[i]? = some s) : (sndcells l)[i * 3]? = some (.pointer (some ⟨s.x, 0, none⟩)) ∧ (sndcells l)[i * 3 + 1]? = some (.string s.left) ∧ (sndcells l)[i * 3 + 2]? = some (.string s.all) := by
  induction l generalizing i with
  | nil => simp at h
  | cons y l ih =>
    cases i with
    | zero => simp at h; subst h; simp [sndcells]
    | succ i =>
      simp at h
      have := ih i h
      rw [show (i + 1) * 3 = (i * 3) + 3 from by omega]
      simpa [sndcells] using this
theorem sndcells_set (l : List SS) (i : Nat) (s : SS) (h : l[i]? = some s) (t : ByteArray) : sndcells (l.set i ⟨s.x, t, s.all⟩) = (sndcells l).set (i * 3 + 1) (.string t) := by
  induction l generalizing i with
  | nil => simp at h
  | cons y l ih =>
    cases i with
    | zero => simp at h; subst h; simp [sndcells]
    | succ i =>
      simp at h
      have := ih i h
      rw [show (i + 1) * 3 + 1 = (i * 3 + 1) + 3 from by omega]
      simpa [sndcells] using this

set_option maxRecDepth 100000 in
set_option maxHeartbeats 4000000 in
theorem nexted_none (W0 w : World) (bw L : Nat) (vl vnm : Value) (ps : List PS) (ns : List Value) {S : Snd} (hW : Wis W0 w bw S L vl vnm ps ns) (o : OpV) (h0 : S.l.length = 0) :
    Calls Tryz.prog 41 #[.pointer (some ⟨bw, 0, none⟩), .agg o.cells] w fun e w' => e = .returned (.bool true) ∧ Kept nothing w w' := by
  have hc1 : w.cell? ⟨bw, 1, none⟩ = some S.v := blk_cell hW.world 1 rfl
  have hlt := blk_lt hW.world
  obtain ⟨la, lcap, hvl, _, _, _⟩ := owns_open (owns_weaken hW.snd.row)
  rw [hvl, h0] at hc1
  obtain ⟨kind, on, oa, ob, os, ot, ou⟩ := o
  simp only [OpV.cells]
  clear hW hvl h0
  go_enter Tryz.func41, Tryz.ntmps41
  go_wp2
  go_ret
  exact ⟨rfl, (Kept.refl nothing w).alloc _⟩

set_option maxRecDepth 100000 in
set_option maxHeartbeats 4000000 in
theorem nexted_go (w : World) (bw g n lcap q x : Nat) (kind on oa ob : Int) (os ot ou left : ByteArray) (hc1 : w.cell? ⟨bw, 1, none⟩ = some (.slice (some ⟨g, 0, none⟩) n lcap))
    (hg : ∃ cur, w.heap[g]? = some (.cells cur 135 (0, 0))) (hbw : ∃ cur, w.heap[bw]? = some (.cells cur 54 (0, 0)))
    (d0 : w.cell? ⟨g, q * 3, none⟩ = some (.pointer (some ⟨x, 0, none⟩))) (d1 : w.cell? ⟨g, q * 3 + 1, none⟩ = some (.string left)) (hx : w.heap[x]? = some (.cells #[.string left] 105 (0, 0))) (hl : left.size ≤ 4096)
    (hq : q < n)
    (hpick : ∀ W : World, Calls Tryz.prog 42 #[.int .i64 on, .int .i64 n] W fun e w' => e = .returned (.int .i64 q) ∧ w' = W) :
    Calls Tryz.prog 41 #[.pointer (some ⟨bw, 0, none⟩), .agg #[.int .i64 kind, .int .i64 on, .int .i64 oa, .int .i64 ob, .string os, .string ot, .string ou]] w fun e w' => e = .returned (.bool true) ∧
      Kept (fun k => k = x ∨ k = g) w w' ∧ w'.heap[x]? = some (.cells #[.string (left.extract (nextN oa left.size) left.size)] 105 (0, 0)) ∧ (∀ cur, w.heap[g]? = some (.cells cur 135 (0, 0)) → w'.heap[g]? = some (.cells (cur.setIfInBounds (q * 3 + 1) (.string (left.extract (nextN oa left.size) left.size))) 135 (0, 0))) := by
  have Hpick := Hid.mk' hpick
  have hz : ((n : Int) == 0) = false := by rw [beq_eq_false_iff_ne]; omega
  have hltb : bw < w.heap.size := World.block_lt_of_cell? w _ hc1
  have hltg : g < w.heap.size := World.block_lt_of_cell? w _ d0
  have hltx : x < w.heap.size := blk_lt hx
  have Hx := Hid.mk' hx
  have Hg := Hid.mk' hg
  have Hbw := Hid.mk' hbw
  clear hpick hx hg hbw
  go_enter Tryz.func41, Tryz.ntmps41
  go_wp2
  have hkB := (Kept.refl nothing w).alloc (.cells #[.int .i64 kind, .int .i64 on, .int .i64 oa, .int .i64 ob, .string os, .string ot, .string ou] 56)
  have hB := heap_alloc_new w (.cells #[.int .i64 kind, .int .i64 on, .int .i64 oa, .int .i64 ob, .string os, .string ot, .string ou] 56 (0, 0))
  generalize w.alloc (.cells #[.int .i64 kind, .int .i64 on, .int .i64 oa, .int .i64 ob, .string os, .string ot, .string ou] 56) = wB at hkB hB ⊢
  have e1 := (hkB.cell (p := ⟨bw, 1, none⟩) hltb (fun h => h)).trans hc1
  have f1 : wB.cell? ⟨w.heap.size, 1, none⟩ = some (.int .i64 on) := blk_cell hB 1 rfl
  have HB := Hid.mk' hB
  have HkB := Hid.mk' hkB
  clear hB hkB
  generalize hhw : w.heap.size = hw at f1 HB ⊢
  have Hhw : Hid (w.heap.size = hw) := hhw
  clear hhw
  go_region_held (fun w' => w'.cell? ⟨bw, 1, none⟩ = some (.slice (some ⟨g, 0, none⟩) n lcap) ∧ w'.cell? ⟨hw, 1, none⟩ = some (.int .i64 on)) (go_keep) ((go_at_call 42; refine (Hpick.out _).mono ?_; rintro e w' ⟨rfl, rfl⟩))
  all_goals
    rename_i hHeld
    clear hHeld
    have hkC : Kept nothing w wB.drew := HkB.out.drew
    have hbC : wB.drew.heap[hw]? = some (.cells #[.int .i64 kind, .int .i64 on, .int .i64 oa, .int .i64 ob, .string os, .string ot, .string ou] 56 (0, 0)) := HB.out
    generalize wB.drew = wC at hkC hbC ⊢
    have hxC := hkC.get Hx.out (fun h => h)
    have c1 := (hkC.cell (p := ⟨bw, 1, none⟩) hltb (fun h => h)).trans hc1
    have c2 := (hkC.cell (p := ⟨g, q * 3, none⟩) hltg (fun h => h)).trans d0
    have c3 : wC.cell? ⟨hw, 2, none⟩ = some (.int .i64 oa) := blk_cell hbC 2 rfl
    have HkC := Hid.mk' hkC
    have HbC := Hid.mk' hbC
    have HxC := Hid.mk' hxC
    have b0 : (0 : Int) ≤ (q : Int) := by omega
    have b1 : (q : Int) < (n : Int) := by omega
    have nxb : x ≠ bw := by obtain ⟨cur, hc⟩ := Hbw.out; exact blk_ne Hx.out hc (by decide)
    have nxg : x ≠ g := by obtain ⟨cur, hc⟩ := Hg.out; exact blk_ne Hx.out hc (by decide)
    have nxh : x ≠ hw := by rw [← Hhw.out]; omega
    have HN := Hid.mk' (pNext_any wC.drew x oa left hxC hl)
    clear hkC hbC hxC e1 f1 hc1 d0 hltx hltg hltb
    go_wp2
    go_region_held (fun w' => w'.cell? ⟨bw, 1, none⟩ = some (.slice (some ⟨g, 0, none⟩) n lcap) ∧ w'.cell? ⟨g, q * 3, none⟩ = some (.pointer (some ⟨x, 0, none⟩)) ∧ w'.cell? ⟨hw, 2, none⟩ = some (.int .i64 oa)) (go_keep) ((go_at_call 27; refine HN.out.mono ?_; rintro e w' ⟨rfl, rfl⟩))
    rename_i hHeld
    clear hHeld
    obtain ⟨m, hm⟩ : ∃ m, m = nextN oa left.size := ⟨_, rfl⟩
    have hmd : (m : Int) = max 0 (min oa (left.size : Int)) := by rw [hm, nextN]; omega
    rw [← hm]
    have Hm := Hid.mk' hm
    clear HN hm
    have hkD : Kept (fun k => k = x) w (wC.setCell ⟨x, 0, none⟩ (.string (left.extract m left.size))).drew := ((HkC.out.mono (fun _ _ h => h.elim)).set_at 0 _).drew
    have hxD : (wC.setCell ⟨x, 0, none⟩ (.string (left.extract m left.size))).drew.heap[x]? = some (.cells #[.string (left.extract m left.size)] 105 (0, 0)) := by
      have h : (wC.setCell ⟨x, 0, none⟩ (.string (left.extract m left.size))).heap[x]? = some (.cells #[.string (left.extract m left.size)] 105 (0, 0)) := by
        have := blk_set HxC.out 0 (.string (left.extract m left.size))
        simpa using this
      exact h
    have e1 : (wC.setCell ⟨x, 0, none⟩ (.string (left.extract m left.size))).drew.cell? ⟨bw, 1, none⟩ = some (.slice (some ⟨g, 0, none⟩) n lcap) := (((Kept.refl (fun k => k = x) wC).set_at 0 _).cell (p := ⟨bw, 1, none⟩) (World.block_lt_of_cell? wC _ c1) (fun e => nxb e.symm)).trans c1
    have e3 : (wC.setCell ⟨x, 0, none⟩ (.string (left.extract m left.size))).drew.cell? ⟨hw, 2, none⟩ = some (.int .i64 oa) := (((Kept.refl (fun k => k = x) wC).set_at 0 _).cell (p := ⟨hw, 2, none⟩) (World.block_lt_of_cell? wC _ c3) (fun e => nxh e.symm)).trans c3
    generalize (wC.setCell ⟨x, 0, none⟩ (.string (left.extract m left.size))).drew = wD at hkD hxD e1 e3 ⊢
    have e2 := (hkD.cell (p := ⟨g, q * 3 + 1, none⟩) (World.block_lt_of_cell? w _ d1) (fun e => nxg e.symm)).trans d1
    obtain ⟨curg, hcg⟩ := Hg.out
    have hgD := hkD.get hcg (fun e => nxg e.symm)
    have hfz := blk_frozen hgD (q * 3 + 1)
    have ngb : g ≠ bw := by obtain ⟨cur, hc⟩ := Hbw.out; exact blk_ne hcg hc (by decide)
    have HkD := Hid.mk' hkD
    have HxD := Hid.mk' hxD
    have HgD := Hid.mk' hgD
    have Hcg := Hid.mk' hcg
    have HPost : Hid (∀ w', w' = (wD.drew.setCell ⟨g, q * 3 + 1, none⟩ (.string (left.extract m left.size))) → Kept (fun k => k = x ∨ k = g) w w' ∧ w'.heap[x]? = some (.cells #[.string (left.extract m left.size)] 105 (0, 0)) ∧ (∀ cur, w.heap[g]? = some (.cells cur 135 (0, 0)) → w'.heap[g]? = some (.cells (cur.setIfInBounds (q * 3 + 1) (.string (left.extract m left.size))) 135 (0, 0)))) := by
      rintro w' rfl
      refine ⟨Kept.setCell (p := ⟨g, q * 3 + 1, none⟩) ((HkD.out.mono (fun _ _ h => .inl h)).drew) (.inl (.inr rfl)) _, ?_, ?_⟩
      · exact ((Kept.refl (fun k => k = g) wD.drew).set_at (q * 3 + 1) _).get HxD.out nxg
      · intro cur hc
        rw [Hcg.out] at hc
        simp only [Option.some.injEq, Obj.cells.injEq, and_true] at hc
        subst hc
        exact blk_set HgD.out (q * 3 + 1) _
    have hee : ((left.extract 0 m).toList == (left.extract 0 m).toList) = true := by simp
    clear hkD hxD hgD hcg c1 c2 c3 HkB HB HkC HbC HxC Hx Hpick
    by_cases hA : (left.size : Int) ≤ oa
    · have hmA : m = left.size := by omega
      subst hmA
      clear hmd
      go_wp2
      go_region_with (fail)
      all_goals
        go_wp2
        go_ret
        refine ⟨rfl, ?_⟩
        rw [← Hm.out]
        exact HPost.out _ (by rw [show left.extract left.size left.size = ByteArray.empty from by simp]; rfl)
    · by_cases hC : oa < 0
      · have hmC : m = 0 := by omega
        subst hmC
        clear hmd
        go_wp2
        go_region_with (fail)
        all_goals
          go_wp2
          go_ret
          refine ⟨rfl, ?_⟩
          rw [← Hm.out]
          exact HPost.out _ (by rw [show left.extract 0 left.size = left from by simp]; rfl)
      · have hmB : oa = (m : Int) := by omega
        subst hmB
        clear hmd
        go_wp2
        go_region_with (fail)
        all_goals
          go_wp2
          go_ret
          refine ⟨rfl, ?_⟩
          rw [← Hm.out]
          exact HPost.out _ rfl
end Go.Proofs.YtdnjfjdhkmngjaaGreatDoor
