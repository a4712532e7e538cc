import Derived.Test.YtdnjfjdhkmngjaaGreatDoorI
namespace Go.Proofs.YtdnjfjdhkmngjaaGreatDoor
open Go.RowKit

set_option maxHeartbeats 400000 in
theorem blocksOf_now (w : World) (b : Nat) (vn : Value) (name : ByteArray) (he : name = ⟨#[]⟩) (hc1 : w.cell? ⟨b, 1, none⟩ = some vn) (hvn : ∃ a n c, vn = .slice a n c) :
    Calls Tryz.prog 58 #[.pointer (some ⟨b, 0, none⟩), .string name] w fun e w' => e = .returned (.tuple #[.agg #[vn], .bool true]) ∧ Kept nothing w w' := by
  obtain ⟨a, n, c, rfl⟩ := hvn
  have hE : name.toList.isEmpty = true := by rw [str_empty]; simp [he]
  have hlt : b < w.heap.size := World.block_lt_of_cell? w _ hc1
  clear he
  go_enter Tryz.func58, Tryz.ntmps58
  go_wp2
  refine bodyPost_ret (v := .tuple #[.agg #[.slice a n c], .bool true]) (by simp [results, Tryz.results58, go_sem]) rfl ⟨rfl, (Kept.refl nothing w).alloc _⟩

set_option maxHeartbeats 400000 in
theorem blocksOf_snap (w : World) (b : Nat) (name : ByteArray) (vs : Value) (sv : List SV) (he : name ≠ ⟨#[]⟩) (hc2 : w.cell? ⟨b, 2, none⟩ = some vs) (hv : w.ownsRow 0 84 2 vs sv.length (scells sv)) (hsl : ∀ t ∈ sv, ∃ a n c, t.2.1 = .slice a n c) :
    Calls Tryz.prog 58 #[.pointer (some ⟨b, 0, none⟩), .string name] w fun e w' =>
      (findF (sv.map SV.out) name < 0 → e = .returned (.tuple #[.agg #[.slice none 0 0], .bool false])) ∧
      (∀ q : Nat, ∀ h : q < sv.length, findF (sv.map SV.out) name = q → e = .returned (.tuple #[.agg #[sv[q].2.1], .bool true])) ∧ Kept nothing w w' := by
  have hE : name.toList.isEmpty = false := by rw [str_empty]; simp [he]
  have hlt : b < w.heap.size := World.block_lt_of_cell? w _ hc2
  have Hcall : Hid (Calls Tryz.prog 48 #[.pointer (some ⟨b, 0, none⟩), .string name] (w.alloc (.cells #[.slice none 0 0] 70)) fun e w' => e = .returned (.int .i64 (findF (sv.map SV.out) name)) ∧ Kept nothing (w.alloc (.cells #[.slice none 0 0] 70)) w') :=
    pfind_any _ b name vs sv (((Kept.refl nothing w).alloc _ |>.cell (p := ⟨b, 2, none⟩) hlt (fun h => h)).trans hc2) (hv.alloc _) hsl
  have hfr := findF_range (sv.map SV.out) name
  simp only [List.length_map] at hfr
  have Hv : Hid (w.ownsRow 0 84 2 vs sv.length (scells sv)) := hv
  have Hsl : Hid (∀ t ∈ sv, ∃ a n c, t.2.1 = .slice a n c) := hsl
  have Hc2 : Hid (w.cell? ⟨b, 2, none⟩ = some vs) := hc2
  clear he hv hsl hc2
  generalize findF (sv.map SV.out) name = fd at Hcall hfr
  by_cases hfd : fd < 0
  · go_enter Tryz.func58, Tryz.ntmps58
    go_wp2_with fail
    refine Hcall.out.mono ?_
    rintro e w1 ⟨rfl, hk1⟩
    have hb := hk1.get (heap_alloc_new w _) (fun h => h)
    have hcb := blk_cell hb 0 rfl
    have hfb := blk_frozen hb 0
    have HB : Hid (w1.heap[w.heap.size]? = some (.cells #[.slice none 0 0] 70 (0, 0))) := hb
    clear hb
    go_wp2
    have hr := blk_cell (blk_set HB.out 0 (.slice none 0 0)) 0 rfl
    refine bodyPost_ret (v := .tuple #[.agg #[.slice none 0 0], .bool false]) (by simp [results, Tryz.results58, go_sem, hr]) rfl ⟨fun _ => rfl, fun q _ h => by omega, ?_⟩
    exact (((Kept.refl nothing w).alloc _).trans hk1).setCell (p := ⟨w.heap.size, 0, none⟩) (.inr (Nat.le_refl _)) _
  · obtain ⟨q, rfl⟩ := Int.eq_ofNat_of_zero_le (show 0 ≤ fd by omega)
    have hq : q < sv.length := by omega
    obtain ⟨gs, scap, rfl, _, hgs, hsn, hsm⟩ := owns_parts Hv.out (by omega)
    obtain ⟨a1, n1, c1, hv1⟩ := Hsl.out sv[q] (by simp)
    have hx : sv[q]? = some sv[q] := by simp
    have hcq := owns_cell Hv.out (pairs_get (fun t : SV => .string t.1) (fun t => t.2.1) sv q _ hx).2
    rw [hv1] at hcq
    have Hv1 : Hid (sv[q].2.1 = .slice a1 n1 c1) := hv1
    clear hx hv1
    go_enter Tryz.func58, Tryz.ntmps58
    go_wp2_with fail
    refine Hcall.out.mono ?_
    rintro e w1 ⟨rfl, hk1⟩
    have hb := hk1.get (heap_alloc_new w _) (fun h => h)
    have hcb := blk_cell hb 0 rfl
    have hfb := blk_frozen hb 0
    have HB : Hid (w1.heap[w.heap.size]? = some (.cells #[.slice none 0 0] 70 (0, 0))) := hb
    have hkA := ((Kept.refl nothing w).alloc (.cells #[.slice none 0 0] 70)).trans hk1
    have h12 := (hkA.cell (p := ⟨b, 2, none⟩) hlt (fun h => h)).trans Hc2.out
    have h1q := (hkA.cell (p := ⟨gs, q * 2 + 1, none⟩) hgs (fun h => h)).trans hcq
    clear hb hcq
    go_wp2
    have hr := blk_cell (blk_set HB.out 0 (.slice a1 n1 c1)) 0 rfl
    refine bodyPost_ret (v := .tuple #[.agg #[.slice a1 n1 c1], .bool true]) (by simp [results, Tryz.results58, go_sem, hr]) rfl ⟨fun h => by omega, fun q' _ h => ?_, ?_⟩
    · have : q = q' := by omega
      subst this
      rw [Hv1.out]
    · exact hkA.setCell (p := ⟨w.heap.size, 0, none⟩) (.inr (Nat.le_refl _)) _
end Go.Proofs.YtdnjfjdhkmngjaaGreatDoor
