import Derived.Test.YtdnjfjdhkmngjaaGreatDoorM6
import Derived.Test.YtdnjfjdhkmngjaaGreatDoorA
import Derived.Test.YtdnjfjdhkmngjaaGreatDoorF
import Derived.Test.YtdnjfjdhkmngjaaGreatDoorN0
import Derived.Deep.RegionHeld
namespace Go.Proofs.YtdnjfjdhkmngjaaGreatDoor
open Go.RowKit

set_option maxRecDepth 100000 in
set_option maxHeartbeats 4000000 in
theorem step_go (w : World) (bw g n lcap q pb pa : Nat) (kind on oa ob : Int) (os ot ou : ByteArray) (hc0 : w.cell? ⟨bw, 0, none⟩ = some (.slice (some ⟨g, 0, none⟩) n lcap))
    (d0 : w.cell? ⟨g, q * 2, none⟩ = some (.pointer (some ⟨pb, 0, none⟩))) (d1 : w.cell? ⟨g, q * 2 + 1, none⟩ = some (.pointer (some ⟨pa, 0, none⟩))) (b1 : (q : Int) < (n : Int)) (kb1 : (kind == 1) = false) (kb9 : (kind == 9) = false) (hz : ((n : Int) == 0) = false)
    (hpick : ∀ W : World, Calls Tryz.prog 42 #[.int .i64 on, .int .i64 n] W fun e w' => e = .returned (.int .i64 q) ∧ w' = W) (Post : World → Prop)
    (htold : kind = 3 ∨ kind = 6 ∨ kind = 7 → ∀ w1, Kept nothing w w1 → Calls Tryz.prog 43 #[.pointer (some ⟨bw, 0, none⟩), .agg #[.pointer (some ⟨pb, 0, none⟩), .pointer (some ⟨pa, 0, none⟩)], .agg #[.int .i64 kind, .int .i64 on, .int .i64 oa, .int .i64 ob, .string os, .string ot, .string ou]] w1 fun e w' => e = .returned (.bool true) ∧ Post w')
    (hsent : kind = 8 → ∀ w1, Kept nothing w w1 → Calls Tryz.prog 44 #[.pointer (some ⟨bw, 0, none⟩), .agg #[.pointer (some ⟨pb, 0, none⟩), .pointer (some ⟨pa, 0, none⟩)], .agg #[.int .i64 kind, .int .i64 on, .int .i64 oa, .int .i64 ob, .string os, .string ot, .string ou]] w1 fun e w' => e = .returned (.bool true) ∧ Post w')
    (hdone : ¬ (kind = 3 ∨ kind = 6 ∨ kind = 7) → kind ≠ 8 → ∀ w1, Kept nothing w w1 → Calls Tryz.prog 45 #[.pointer (some ⟨bw, 0, none⟩), .agg #[.pointer (some ⟨pb, 0, none⟩), .pointer (some ⟨pa, 0, none⟩)], .agg #[.int .i64 kind, .int .i64 on, .int .i64 oa, .int .i64 ob, .string os, .string ot, .string ou]] w1 fun e w' => e = .returned (.bool true) ∧ Post w') :
    Calls Tryz.prog 16 #[.pointer (some ⟨bw, 0, none⟩), .agg #[.int .i64 kind, .int .i64 on, .int .i64 oa, .int .i64 ob, .string os, .string ot, .string ou]] w fun e w' => e = .returned (.bool true) ∧ Post w' := by
  have Hpick : Hid (∀ W : World, Calls Tryz.prog 42 #[.int .i64 on, .int .i64 n] W fun e w' => e = .returned (.int .i64 q) ∧ w' = W) := hpick
  have HT : Hid (kind = 3 ∨ kind = 6 ∨ kind = 7 → ∀ w1, Kept nothing w w1 → Calls Tryz.prog 43 #[.pointer (some ⟨bw, 0, none⟩), .agg #[.pointer (some ⟨pb, 0, none⟩), .pointer (some ⟨pa, 0, none⟩)], .agg #[.int .i64 kind, .int .i64 on, .int .i64 oa, .int .i64 ob, .string os, .string ot, .string ou]] w1 fun e w' => e = .returned (.bool true) ∧ Post w') := htold
  have HS : Hid (kind = 8 → ∀ w1, Kept nothing w w1 → Calls Tryz.prog 44 #[.pointer (some ⟨bw, 0, none⟩), .agg #[.pointer (some ⟨pb, 0, none⟩), .pointer (some ⟨pa, 0, none⟩)], .agg #[.int .i64 kind, .int .i64 on, .int .i64 oa, .int .i64 ob, .string os, .string ot, .string ou]] w1 fun e w' => e = .returned (.bool true) ∧ Post w') := hsent
  have HD : Hid (¬ (kind = 3 ∨ kind = 6 ∨ kind = 7) → kind ≠ 8 → ∀ w1, Kept nothing w w1 → Calls Tryz.prog 45 #[.pointer (some ⟨bw, 0, none⟩), .agg #[.pointer (some ⟨pb, 0, none⟩), .pointer (some ⟨pa, 0, none⟩)], .agg #[.int .i64 kind, .int .i64 on, .int .i64 oa, .int .i64 ob, .string os, .string ot, .string ou]] w1 fun e w' => e = .returned (.bool true) ∧ Post w') := hdone
  clear hpick htold hdone hsent
  have hlt : bw < w.heap.size := World.block_lt_of_cell? w _ hc0
  have hg : g < w.heap.size := World.block_lt_of_cell? w _ d0
  have b0 : (0 : Int) ≤ (q : Int) := by omega
  go_enter Tryz.func16, Tryz.ntmps16
  go_wp2
  have hkB := (Kept.refl nothing w).alloc (.cells #[.int .i64 kind, .int .i64 on, .int .i64 oa, .int .i64 ob, .string os, .string ot, .string ou] 56)
  have hB := heap_alloc_new w (.cells #[.int .i64 kind, .int .i64 on, .int .i64 oa, .int .i64 ob, .string os, .string ot, .string ou] 56 (0, 0))
  have e0 := (hkB.cell (p := ⟨bw, 0, none⟩) hlt (fun h => h)).trans hc0
  have e1 := (hkB.cell (p := ⟨g, q * 2, none⟩) hg (fun h => h)).trans d0
  have e2 := (hkB.cell (p := ⟨g, q * 2 + 1, none⟩) hg (fun h => h)).trans d1
  generalize w.alloc (.cells #[.int .i64 kind, .int .i64 on, .int .i64 oa, .int .i64 ob, .string os, .string ot, .string ou] 56) = wB at hkB hB e0 e1 e2 ⊢
  have f1 : wB.cell? ⟨w.heap.size, 1, none⟩ = some (.int .i64 on) := blk_cell hB 1 rfl
  have HB : Hid (wB.heap[w.heap.size]? = some (.cells #[.int .i64 kind, .int .i64 on, .int .i64 oa, .int .i64 ob, .string os, .string ot, .string ou] 56 (0, 0))) := hB
  have l1 : bw < wB.heap.size := World.block_lt_of_cell? wB _ e0
  have l2 : w.heap.size < wB.heap.size := blk_lt hB
  have l3 : g < wB.heap.size := World.block_lt_of_cell? wB _ e1
  have HkB : Hid (Kept nothing w wB) := hkB
  clear hB d0 d1 hc0 hlt hg hkB
  generalize hHW : w.heap.size = hw at HB f1 l2 ⊢
  clear hHW
  have L2 : Hid (hw < wB.heap.size) := l2
  clear l1 l2 l3 kb1 kb9 hz
  go_region_held (fun w' => w'.cell? ⟨bw, 0, none⟩ = some (.slice (some ⟨g, 0, none⟩) n lcap) ∧ w'.cell? ⟨hw, 1, none⟩ = some (.int .i64 on) ∧ w'.cell? ⟨g, q * 2, none⟩ = some (.pointer (some ⟨pb, 0, none⟩)) ∧ w'.cell? ⟨g, q * 2 + 1, none⟩ = some (.pointer (some ⟨pa, 0, none⟩))) (go_keep) ((go_at_call 42; refine (Hpick.out _).mono ?_; rintro e w' ⟨rfl, rfl⟩))
  all_goals
    rename_i hHeld
    clear hHeld e0 e1 e2 f1 b0 b1
    have l2 := L2.out
    have hkA : Kept nothing wB (wB.alloc (.cells #[.pointer (some ⟨pb, 0, none⟩), .pointer (some ⟨pa, 0, none⟩)] 96)).drew := ((Kept.refl nothing wB).alloc _).drew
    have hb1 : (wB.alloc (.cells #[.pointer (some ⟨pb, 0, none⟩), .pointer (some ⟨pa, 0, none⟩)] 96)).drew.heap[hw]? = _ := hkA.get HB.out (fun h => h)
    have hb2 : (wB.alloc (.cells #[.pointer (some ⟨pb, 0, none⟩), .pointer (some ⟨pa, 0, none⟩)] 96)).drew.heap[wB.heap.size]? = _ := heap_alloc_new wB _
    have HkA : Hid (Kept nothing w (wB.alloc (.cells #[.pointer (some ⟨pb, 0, none⟩), .pointer (some ⟨pa, 0, none⟩)] 96)).drew) := HkB.out.trans hkA
    generalize (wB.alloc (.cells #[.pointer (some ⟨pb, 0, none⟩), .pointer (some ⟨pa, 0, none⟩)] 96)).drew = wC at hb1 hb2 HkA ⊢
    have x0 : wC.cell? ⟨hw, 0, none⟩ = some (.int .i64 kind) := blk_cell hb1 0 rfl
    have x1 : wC.cell? ⟨hw, 1, none⟩ = some (.int .i64 on) := blk_cell hb1 1 rfl
    have x2 : wC.cell? ⟨hw, 2, none⟩ = some (.int .i64 oa) := blk_cell hb1 2 rfl
    have x3 : wC.cell? ⟨hw, 3, none⟩ = some (.int .i64 ob) := blk_cell hb1 3 rfl
    have x4 : wC.cell? ⟨hw, 4, none⟩ = some (.string os) := blk_cell hb1 4 rfl
    have x5 : wC.cell? ⟨hw, 5, none⟩ = some (.string ot) := blk_cell hb1 5 rfl
    have x6 : wC.cell? ⟨hw, 6, none⟩ = some (.string ou) := blk_cell hb1 6 rfl
    have y0 : wC.cell? ⟨wB.heap.size, 0, none⟩ = some (.pointer (some ⟨pb, 0, none⟩)) := blk_cell hb2 0 rfl
    have y1 : wC.cell? ⟨wB.heap.size, 1, none⟩ = some (.pointer (some ⟨pa, 0, none⟩)) := blk_cell hb2 1 rfl
    clear hb1 hb2 hkA HB l2 L2 HkB
    generalize wB.heap.size = hx at y0 y1 ⊢
    by_cases h3 : kind = 3
    · have k3 : (kind == 3) = true := by simp [h3]
      have Hk : Hid (kind = 3 ∨ kind = 6 ∨ kind = 7) := .inl h3
      clear h3
      go_wp2_with (go_at_call 43; refine (HT.out Hk.out wC HkA.out).mono ?_; rintro e w' ⟨rfl, hres⟩)
      go_ret
      exact ⟨rfl, hres⟩
    have k3 : (kind == 3) = false := by simpa using h3
    by_cases h6 : kind = 6
    · have k6 : (kind == 6) = true := by simp [h6]
      have Hk : Hid (kind = 3 ∨ kind = 6 ∨ kind = 7) := .inr (.inl h6)
      clear h6 h3
      go_wp2_with (go_at_call 43; refine (HT.out Hk.out wC HkA.out).mono ?_; rintro e w' ⟨rfl, hres⟩)
      go_ret
      exact ⟨rfl, hres⟩
    have k6 : (kind == 6) = false := by simpa using h6
    by_cases h7 : kind = 7
    · have k7 : (kind == 7) = true := by simp [h7]
      have Hk : Hid (kind = 3 ∨ kind = 6 ∨ kind = 7) := .inr (.inr h7)
      clear h7 h6 h3
      go_wp2_with (go_at_call 43; refine (HT.out Hk.out wC HkA.out).mono ?_; rintro e w' ⟨rfl, hres⟩)
      go_ret
      exact ⟨rfl, hres⟩
    have k7 : (kind == 7) = false := by simpa using h7
    have Hk : Hid (¬ (kind = 3 ∨ kind = 6 ∨ kind = 7)) := by rintro (h | h | h); exact h3 h; exact h6 h; exact h7 h
    by_cases h8 : kind = 8
    · have k8 : (kind == 8) = true := by simp [h8]
      have H8 := h8
      have HS8 : Hid (Calls Tryz.prog 44 #[.pointer (some ⟨bw, 0, none⟩), .agg #[.pointer (some ⟨pb, 0, none⟩), .pointer (some ⟨pa, 0, none⟩)], .agg #[.int .i64 kind, .int .i64 on, .int .i64 oa, .int .i64 ob, .string os, .string ot, .string ou]] wC fun e w' => e = .returned (.bool true) ∧ Post w') := HS.out h8 wC HkA.out
      clear h8 h7 h6 h3 H8
      go_wp2_with (go_at_call 44; refine HS8.out.mono ?_; rintro e w' ⟨rfl, hres⟩)
      go_ret
      exact ⟨rfl, hres⟩
    have k8 : (kind == 8) = false := by simpa using h8
    have H8 : Hid (kind ≠ 8) := h8
    clear h7 h6 h3 h8
    go_wp2_with (go_at_call 45; refine (HD.out Hk.out H8.out wC HkA.out).mono ?_; rintro e w' ⟨rfl, hres⟩)
    go_ret
    exact ⟨rfl, hres⟩
end Go.Proofs.YtdnjfjdhkmngjaaGreatDoor
