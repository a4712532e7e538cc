import Derived.Test.YtdnjfjdhkmngjaaGreatDoorM5
namespace Go.Proofs.YtdnjfjdhkmngjaaGreatDoor
open Go.RowKit

set_option maxHeartbeats 400000 in
theorem refuse_any (s : ByteArray) (code : Int) (w : World) (hc : code ≠ 0) :
    Calls Tryz.prog 30 #[.string s, .int .i64 code] w fun e w' => ∃ err, e = .returned err ∧ ErrRep w' err code ∧ Kept nothing w w' := by
  have Hc : Hid (code ≠ 0) := hc
  clear hc
  go_enter Tryz.func30, Tryz.ntmps30
  go_wp2
  go_ret
  refine ⟨_, rfl, .inr ⟨Hc.out, w.heap.size + 1, w.heap.size, s, rfl, alloc_at2 w _ _, alloc_at1 w _ _⟩, ((Kept.refl nothing w).alloc _).alloc _⟩

set_option maxHeartbeats 400000 in
/-- find$1: is it the snapshot of this name? -/
theorem pfind1_any (w : World) (nm name : ByteArray) (v : Value) (q : Nat) (hv : ∃ a n c, v = .slice a n c) (hq : w.cell? ⟨q, 0, none⟩ = some (.string name)) :
    Calls Tryz.prog 76 #[.agg #[.string nm, v], .pointer (some ⟨q, 0, none⟩)] w fun e w' => e = .returned (.bool (decide (nm = name))) ∧ Kept nothing w w' := by
  obtain ⟨a, n, c, rfl⟩ := hv
  have hlt : q < w.heap.size := World.block_lt_of_cell? w _ hq
  go_enter Tryz.func76, Tryz.ntmps76
  go_wp2
  go_ret
  exact ⟨ret_bool (str_eq _ _), (Kept.refl _ _).alloc _⟩

set_option maxHeartbeats 1000000 in
theorem slIndexFunc_any (w : World) (name : ByteArray) (v : Value) (sv : List SV) (q : Nat) (hv : w.ownsRow 0 84 2 v sv.length (scells sv)) (hsl : ∀ t ∈ sv, ∃ a n c, t.2.1 = .slice a n c) (hq : w.cell? ⟨q, 0, none⟩ = some (.string name)) :
    Calls Tryz.prog 75 #[v, .func (.func 76) #[] #[.pointer (some ⟨q, 0, none⟩)]] w fun e w' => e = .returned (.int .i64 (findF (sv.map SV.out) name)) ∧ Kept nothing w w' := by
  obtain ⟨sa, cap, rfl, hnc, hcm, hcells⟩ := owns_open hv
  unfold maxLen at hcm
  have hqlt : q < w.heap.size := World.block_lt_of_cell? w _ hq
  have Hsl : Hid (∀ t ∈ sv, ∃ a n c, t.2.1 = .slice a n c) := hsl
  clear hv hsl
  go_enter Tryz.func75, Tryz.ntmps75
  go_wp2
  go_loopw [8] (fun i wr => ∃ k : Nat, k ≤ sv.length ∧ i = .int .i64 k ∧ (∀ j y, j < k → (sv.map SV.out)[j]? = some y → y.1 ≠ name) ∧ Kept nothing w wr) (fun i _ => sv.length - (intOf i).toNat)
  case atStart => exact ⟨0, Nat.zero_le _, rfl, by intro j y h; omega, Kept.refl _ _⟩
  case round =>
    obtain ⟨k, hk, rfl, hall, hkp⟩ := hrel
    have HH : Hid (∀ j y, j < k → (sv.map SV.out)[j]? = some y → y.1 ≠ name) := hall
    clear hall
    by_cases hlt : k < sv.length
    · obtain ⟨g, rfl, hg, hcs⟩ := hcells (by omega)
      have hx : sv[k]? = some sv[k] := by simp
      have hpg := pairs_get (fun t : SV => .string t.1) (fun t => t.2.1) sv k _ hx
      have hc0 := (hkp.cell (p := ⟨g, k * 2, none⟩) hg (fun h => h)).trans (hcs (k * 2) _ hpg.1)
      have hc1 := (hkp.cell (p := ⟨g, k * 2 + 1, none⟩) hg (fun h => h)).trans (hcs (k * 2 + 1) _ hpg.2)
      obtain ⟨a1, n1, c1, hv1⟩ := Hsl.out sv[k] (by simp)
      rw [hv1] at hc1
      have hq' := (hkp.cell (p := ⟨q, 0, none⟩) hqlt (fun h => h)).trans hq
      have Hcall : Hid (Calls Tryz.prog 76 #[.agg #[.string sv[k].1, .slice a1 n1 c1], .pointer (some ⟨q, 0, none⟩)] wr fun e w' => e = .returned (.bool (decide (sv[k].1 = name))) ∧ Kept nothing wr w') := pfind1_any wr _ _ _ q ⟨_, _, _, rfl⟩ hq'
      clear hcs hpg hcells hx hv1
      by_cases he : sv[k].1 = name
      · have hd : decide (sv[k].1 = name) = true := by simp [he]
        rw [hd] at Hcall
        have He : Hid (sv[k].1 = name) := he
        clear hd he
        go_wp2_with (go_at_call 76; refine Hcall.out.mono ?_; rintro e w' ⟨rfl, hkc⟩)
        go_ret
        exact ⟨ret_int (findF_hit _ _ k (SV.out sv[k]) (by simp [hlt]) He.out (fun j y hj hy => HH.out j y hj hy)).symm, hkp.trans hkc⟩
      · have hd : decide (sv[k].1 = name) = false := by simp [he]
        rw [hd] at Hcall
        have He : Hid (sv[k].1 ≠ name) := he
        clear hd he
        go_wp2_with (go_at_call 76; refine Hcall.out.mono ?_; rintro e w' ⟨rfl, hkc⟩)
        go_roundw
        case rel =>
          refine ⟨k + 1, by omega, by go_num, fun j y hj hy => ?_, hkp.trans hkc⟩
          by_cases hjk : j < k
          · exact HH.out j y hjk hy
          · have : j = k := by omega
            subst this
            simp [hlt] at hy
            subst hy
            exact He.out
        case measure => simp [intOf]; omega
    · go_wp2
      go_ret
      refine ⟨ret_int (findF_miss _ _ (fun j y hj => HH.out j y ?_)).symm, hkp⟩
      simp at hj; omega
end Go.Proofs.YtdnjfjdhkmngjaaGreatDoor
