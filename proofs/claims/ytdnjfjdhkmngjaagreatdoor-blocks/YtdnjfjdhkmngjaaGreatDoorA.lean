import Derived.Test.YtdnjfjdhkmngjaaGreatDoorChecked
import Derived.Test.YtdnjfjdhkmngjaaGreatDoorM0
import Derived.WalkKit
import Derived.WalkSpells
import Derived.WalkLawsBesides
namespace Go.Proofs.YtdnjfjdhkmngjaaGreatDoor
open Go.RowKit

set_option maxHeartbeats 400000 in
theorem pick_any (c n : Int) (w : World) (hc : -9223372036854775808 ≤ c) (hc2 : c ≤ 9223372036854775807) (hn : 0 < n) (hn2 : n ≤ 9223372036854775807) :
    Calls Tryz.prog 42 #[.int .i64 c, .int .i64 n] w fun e w' => e = .returned (.int .i64 (pickF c n)) ∧ w' = w := by
  by_cases h : c < 0
  · go_enter Tryz.func42, Tryz.ntmps42
    go_wp2
    go_ret
    exact ⟨ret_int (by simp only [pickF, if_pos h]; rw [← Int.neg_tmod, Int.tmod_eq_emod_of_nonneg (by omega)]), rfl⟩
  · go_enter Tryz.func42, Tryz.ntmps42
    go_wp2
    go_ret
    exact ⟨ret_int (by simp only [pickF]; rw [if_neg (by omega)]), rfl⟩

set_option maxHeartbeats 400000 in
theorem rName_any (s : ByteArray) (w : World) (hs : s.size ≤ maxLen) :
    Calls Tryz.prog 89 #[.string s] w fun e w' => e = .returned (.bool (nameB s)) ∧ w' = w := by
  unfold maxLen at hs
  go_enter Tryz.func89, Tryz.ntmps89
  go_wp2
  go_loop [3] (fun i => ∃ k : Nat, k ≤ s.size ∧ i = .int .i64 k ∧ (s.data.toList.take k).all letterB = true) (fun i => s.size - (intOf i).toNat)
  case atStart => exact ⟨0, Nat.zero_le _, rfl, rfl⟩
  case round =>
    obtain ⟨k, hk, rfl, hall⟩ := hrel
    have HH : Hid ((s.data.toList.take k).all letterB = true) := hall
    clear hall
    by_cases hlt : k < s.size
    · go_wp2
      all_goals first
        | (go_round
           case rel => exact ⟨k + 1, by omega, by go_num, all_take_succ s k hlt HH.out (letterB_of _ (by omega) (by omega))⟩
           case measure => simp [intOf]; omega)
        | (go_ret; exact ⟨ret_bool (nameB_bad s k hlt (letterB_no _ (by omega))).symm, rfl⟩)
    · have hke : k = s.size := by omega
      have hn := nameB_full s (by rw [← hke]; exact HH.out)
      have HN : Hid (nameB s = (decide (1 ≤ s.size) && decide (s.size ≤ 4))) := hn
      clear hn
      have hke' := hke
      clear hke
      go_wp2
      all_goals (go_ret; refine ⟨ret_bool ?_, rfl⟩; rw [HN.out])
      all_goals (rw [Bool.eq_iff_iff]; simp; omega)

set_option maxHeartbeats 400000 in
theorem isName_any (s : ByteArray) (w : World) (hs : s.size ≤ maxLen) :
    Calls Tryz.prog 29 #[.string s] w fun e w' => e = .returned (.bool (nameB s)) ∧ w' = w := by
  unfold maxLen at hs
  by_cases h0 : s.size < 1 ∨ 4 < s.size
  · have HN : Hid (nameB s = false) := nameB_len s h0
    by_cases h1 : s.size < 1
    all_goals
      go_enter Tryz.func29, Tryz.ntmps29
      go_wp2
      go_ret
      exact ⟨ret_bool HN.out.symm, rfl⟩
  · have h1 : 1 ≤ s.size := by omega
    have h4 : s.size ≤ 4 := by omega
    clear h0
    go_enter Tryz.func29, Tryz.ntmps29
    go_wp2
    go_loop [14] (fun i => ∃ k : Nat, k ≤ s.size ∧ i = .int .i64 k ∧ (s.data.toList.take k).all letterB = true) (fun i => s.size - (intOf i).toNat)
    case atStart => exact ⟨0, Nat.zero_le _, rfl, rfl⟩
    case round =>
      obtain ⟨k, hk, rfl, hall⟩ := hrel
      have HH : Hid ((s.data.toList.take k).all letterB = true) := hall
      clear hall
      by_cases hlt : k < s.size
      · go_wp2
        all_goals first
          | (go_round
             case rel => exact ⟨k + 1, by omega, by go_num, all_take_succ s k hlt HH.out (letterB_of _ (by omega) (by omega))⟩
             case measure => simp [intOf]; omega)
          | (go_ret; exact ⟨ret_bool (nameB_bad s k hlt (letterB_no _ (by omega))).symm, rfl⟩)
      · have hke : k = s.size := by omega
        have HN : Hid (nameB s = (decide (1 ≤ s.size) && decide (s.size ≤ 4))) := nameB_full s (by rw [← hke]; exact HH.out)
        clear hke
        go_wp2
        go_ret
        refine ⟨ret_bool ?_, rfl⟩
        rw [HN.out]; simp; omega
end Go.Proofs.YtdnjfjdhkmngjaaGreatDoor
