import Derived.Test.YtdnjfjdhkmngjaaGreatDoorH
import Derived.Deep.RegionWith
import Derived.BigRegion
import Derived.BigCall
namespace Go.Proofs.YtdnjfjdhkmngjaaGreatDoor
open Go.RowKit

theorem tab_slice {w : World} {ι : Nat → Nat} {v : Value} {bs : List Blk} (h : Tab w ι v bs) : ∃ a n c, v = .slice a n c := by
  obtain ⟨a, cap, rfl, _⟩ := owns_open h.row
  exact ⟨_, _, _, rfl⟩

set_option maxHeartbeats 400000 in
theorem pfind_any (w : World) (b : Nat) (name : ByteArray) (vs : Value) (sv : List SV) (hc2 : w.cell? ⟨b, 2, none⟩ = some vs) (hv : w.ownsRow 0 84 2 vs sv.length (scells sv)) (hsl : ∀ t ∈ sv, ∃ a n c, t.2.1 = .slice a n c) :
    Calls Tryz.prog 48 #[.pointer (some ⟨b, 0, none⟩), .string name] w fun e w' => e = .returned (.int .i64 (findF (sv.map SV.out) name)) ∧ Kept nothing w w' := by
  have hmf : ∀ (fn : Fn) (first cap : Array Value) (w : World), (Instr.makeFunc fn first cap).run Tryz.prog w = .ok (.func fn first cap) w := fun _ _ _ _ => rfl
  have hlt : b < w.heap.size := World.block_lt_of_cell? w _ hc2
  have hbox : (w.alloc (.cells #[.string name] 9)).cell? ⟨w.heap.size, 0, none⟩ = some (.string name) := blk_cell (heap_alloc_new w _) 0 rfl
  have Hcall : Hid (Calls Tryz.prog 75 #[vs, .func (.func 76) #[] #[.pointer (some ⟨w.heap.size, 0, none⟩)]] (w.alloc (.cells #[.string name] 9)) fun e w' => e = .returned (.int .i64 (findF (sv.map SV.out) name)) ∧ Kept nothing (w.alloc (.cells #[.string name] 9)) w') :=
    slIndexFunc_any _ name vs sv w.heap.size (hv.alloc _) hsl hbox
  obtain ⟨sa, cap, rfl, _, _, _⟩ := owns_open hv
  clear hv hsl hbox
  go_enter Tryz.func48, Tryz.ntmps48
  go_wp2_with (go_at_call 75; refine Hcall.out.mono ?_; rintro e w' ⟨rfl, hkc⟩)
  go_ret
  exact ⟨rfl, ((Kept.refl nothing w).alloc _).trans hkc⟩

/-- A new row of one element. -/
theorem owns_new1 (w : World) (x : Value) (e base : Nat) (hb : base ≤ w.heap.size) : (w.alloc (.cells #[x] e)).ownsRow base e 1 (.slice (some ⟨w.heap.size, 0, none⟩) 1 1) 1 [x] :=
  ⟨rfl, .inr ⟨w.heap.size, 1, #[x], rfl, hb, heap_alloc_new w _, Nat.le_refl _, by simp [maxLen], rfl, rfl⟩⟩
/-- The tables of a volume: the one of now, and those of its snapshots. -/
def tvs (v : Value) (bs : List Blk) (sv : List SV) : List TV := (v, bs) :: sv.map fun t => (t.2.1, t.2.2)
theorem tvs_ids (v : Value) (bs : List Blk) (sv : List SV) : tids (tvs v bs sv) = bs.map (·.2) ++ sids sv := by
  simp [tvs, tids, sids, List.flatMap_map]
theorem tvs_vals (v : Value) (bs : List Blk) (sv : List SV) : (tvs v bs sv).map (·.1) = v :: sv.map (·.2.1) := by
  simp [tvs]

set_option maxHeartbeats 1000000 in
theorem usedWith_any (w : World) (ι : Nat → Nat) (v vs : Value) (bs : List Blk) (sv : List SV) (hv : w.ownsRow 0 84 2 vs sv.length (scells sv)) (hnow : Tab w ι v bs) (heach : ∀ t ∈ sv, Tab w ι t.2.1 t.2.2)
    (hbl : bs.length ≤ 16) (hsl : sv.length ≤ 6) (hlens : ∀ t ∈ sv, t.2.2.length ≤ 16) (hinj : InjOn ι (bs.map (·.2) ++ sids sv)) :
    Calls Tryz.prog 28 #[.agg #[v], vs] w fun e w' => e = .returned (.int .i64 (usedN (bs.map (·.2) ++ sids sv))) ∧ Kept nothing w w' := by
  obtain ⟨va, vn, vc, hvv⟩ := tab_slice hnow
  obtain ⟨sa, scap, rfl, hnc, hcm, hcells⟩ := owns_open hv
  unfold maxLen at hcm
  subst hvv
  have Hnow : Hid (Tab w ι (.slice va vn vc) bs) := hnow
  have Heach : Hid (∀ t ∈ sv, Tab w ι t.2.1 t.2.2) := heach
  have Hlens : Hid (∀ t ∈ sv, t.2.2.length ≤ 16) := hlens
  have Hinj : Hid (InjOn ι (bs.map (·.2) ++ sids sv)) := hinj
  clear hv hnow heach hlens hinj
  go_enter Tryz.func28, Tryz.ntmps28
  go_wp2
  go_loopw [5, 12] (fun f i wr => ∃ k : Nat, k ≤ sv.length ∧ i = .int .i64 k ∧ wr.ownsRow w.heap.size 70 1 f (k + 1) (.slice va vn vc :: (sv.take k).map (·.2.1)) ∧ Kept nothing w wr) (fun _ i _ => sv.length - (intOf i).toNat)
  case atStart =>
    refine ⟨0, Nat.zero_le _, rfl, ?_, ((Kept.refl nothing w).alloc _).alloc _⟩
    have := owns_new1 (w.alloc (.cells #[.slice va vn vc] 70)) (.slice va vn vc) 70 w.heap.size (by simp)
    simpa using this
  case round =>
    obtain ⟨k, hk, rfl, how, hkp⟩ := hrel
    by_cases hltk : k < sv.length
    · obtain ⟨g, rfl, hg, hcs⟩ := hcells (by omega)
      have hx : sv[k]? = some sv[k] := by simp
      have hpg := pairs_get (fun t : SV => .string t.1) (fun t => t.2.1) sv k _ hx
      have hc0 := (hkp.cell (p := ⟨g, k * 2, none⟩) hg (fun h => h)).trans (hcs (k * 2) _ hpg.1)
      have hc1 := (hkp.cell (p := ⟨g, k * 2 + 1, none⟩) hg (fun h => h)).trans (hcs (k * 2 + 1) _ hpg.2)
      obtain ⟨a1, n1, c1, hv1⟩ := tab_slice (Heach.out sv[k] (by simp))
      have Htk : Hid ((sv.take (k + 1)).map (·.2.1) = (sv.take k).map (·.2.1) ++ [.slice a1 n1 c1]) := by
        show _ = _
        rw [List.take_succ_eq_append_getElem hltk, List.map_append, List.map_cons, List.map_nil, hv1]
      rw [hv1] at hc1
      have How : Hid (wr.ownsRow w.heap.size 70 1 u5 (k + 1) (.slice va vn vc :: (sv.take k).map (·.2.1))) := how
      have hszx := hkp.size
      clear hcs hpg hcells hx hv1 how
      go_wp2_with (at_builtin; refine wp_append _ _ _ 1 24 und_tables info_table rfl (by decide) (by decide) _ rfl _ _ rfl w.heap.size u5 (k + 1) (.slice va vn vc :: (sv.take k).map (·.2.1)) rfl ((How.out.alloc _).alloc _) ⟨wr.heap.size + 1, 0, none⟩ 1 1 [.slice a1 n1 c1] rfl rfl ?_ ?_ ?_ ?_ ?_)
      · rfl
      · omega
      · omega
      intro v2 w2 ho2 hg2 _
      have Ho2 : Hid (w2.ownsRow w.heap.size 70 1 v2 (k + 1 + 1) (.slice va vn vc :: (sv.take (k + 1)).map (·.2.1))) := by
        rw [Htk.out, List.map_take]; exact ho2
      have Hk2 : Hid (Kept nothing w w2) := ((hkp.alloc _).alloc _).grown hg2 (fun k hk => .inr (owns_above How.out hk))
      clear ho2 hg2
      go_wp2
      go_roundw
      case rel => exact ⟨k + 1, by omega, by go_num, Ho2.out, Hk2.out⟩
      case measure => simp [intOf]; omega
    · have hke : k = sv.length := by omega
      have Hcall : Hid (Calls Tryz.prog 55 #[u5] wr fun e w' => e = .returned (.int .i64 (usedN (bs.map (·.2) ++ sids sv))) ∧ Kept nothing wr w') := by
        have h := cUsed_any wr ι u5 (tvs (.slice va vn vc) bs sv) ?_ ?_ ?_ ?_ ?_
        · rw [tvs_ids] at h; exact h
        · rw [tvs_vals]
          have hl : (tvs (.slice va vn vc) bs sv).length = k + 1 := by simp [tvs, hke]
          rw [hl]
          rw [hke, List.take_length] at how
          rw [hke]
          exact owns_weaken how
        · intro t ht
          simp only [tvs, List.mem_cons, List.mem_map] at ht
          rcases ht with rfl | ⟨s, hs, rfl⟩
          · exact Hnow.out.keptN hkp
          · exact (Heach.out s hs).keptN hkp
        · intro t ht
          simp only [tvs, List.mem_cons, List.mem_map] at ht
          rcases ht with rfl | ⟨s, hs, rfl⟩
          · exact hbl
          · exact Hlens.out s hs
        · simp [tvs]; omega
        · rw [tvs_ids]; exact Hinj.out
      clear how hke hcells
      go_wp2_with (go_at_call 55; refine Hcall.out.mono ?_; rintro e w' ⟨rfl, hkc⟩)
      go_ret
      exact ⟨rfl, hkp.trans hkc⟩

set_option maxHeartbeats 400000 in
theorem pUsed_any (w : World) (b : Nat) (ι : Nat → Nat) (R : Vol) (vn vs : Value) (sv : List SV) (hP : PRep w b ι R vn vs sv) (hG : Good R) :
    Calls Tryz.prog 12 #[.pointer (some ⟨b, 0, none⟩)] w fun e w' => e = .returned (.int .i64 (usedF R R.blocks)) ∧ Kept nothing w w' := by
  have Hcall : Hid (Calls Tryz.prog 28 #[.agg #[vn], vs] w.drew fun e w' => e = .returned (.int .i64 (usedF R R.blocks)) ∧ Kept nothing w w') := by
    have h := usedWith_any w.drew ι vn vs R.blocks sv hP.drew.snaps hP.drew.now hP.drew.each hG.few (by have := hG.snaps; rw [hP.out] at this; simpa using this)
      (fun t ht => by have := hG.lens (SV.out t) (by rw [hP.out]; exact List.mem_map_of_mem ht); have h2 := hG.few; simp only [SV.out] at this; omega)
      (by have := hP.inj; rw [allIds, hP.out, ← sids_out] at this; exact this)
    rw [sids_out, ← hP.out] at h
    exact h.mono fun e w' h => ⟨h.1, h.2.of_drew⟩
  have hc1 := hP.c1
  have hc2 := hP.c2
  obtain ⟨va, vn', vc, hvv⟩ := tab_slice hP.now
  obtain ⟨sa, scap, hvs, _, _, _⟩ := owns_open hP.snaps
  subst hvv hvs
  clear hP hG
  go_enter Tryz.func12, Tryz.ntmps12
  go_wp2_with fail
  go_region_with (go_at_call 28; refine Hcall.out.mono ?_; rintro e w' ⟨rfl, hkc⟩)
  all_goals
    go_wp2
    go_ret
    exact ⟨rfl, hkc⟩
end Go.Proofs.YtdnjfjdhkmngjaaGreatDoor
