import Derived.Test.YtdnjfjdhkmngjaaGreatDoorM3
import Derived.WalkKit
import Derived.WalkSpells
import Derived.WalkLawsBesides
namespace Go.Proofs.YtdnjfjdhkmngjaaGreatDoor
open Go.RowKit

def letterOf (x : Int) : ByteArray := ByteArray.empty.push (UInt8.ofNat x.toNat)
def lettersStep (p : Nat × ByteArray) : Nat × ByteArray := (p.1 / 26, letterOf (65 + (p.1 : Int) % 26) ++ p.2)
def lettersAt (n : Nat) : Nat → Nat × ByteArray
  | 0 => (n, ⟨#[]⟩)
  | k + 1 => lettersStep (lettersAt n k)
/-- A mark's letters. -/
def lettersF (n : Nat) : ByteArray := (lettersAt n 5).2
theorem lettersAt_le (n : Nat) : ∀ k, (lettersAt n k).1 ≤ n
  | 0 => Nat.le_refl _
  | k + 1 => Nat.le_trans (Nat.div_le_self _ _) (lettersAt_le n k)
theorem letterOf_size (x : Int) : (letterOf x).size = 1 := rfl
theorem lettersAt_size (n : Nat) : ∀ k, (lettersAt n k).2.size = k
  | 0 => rfl
  | k + 1 => by
    have := lettersAt_size n k
    simp only [lettersAt, lettersStep, ByteArray.size_append, letterOf_size, this]; omega
theorem und_u8 : Tryz.prog.underlying 5 = some (.int .u8) := by kernel_rfl
theorem und_str : Tryz.prog.underlying 9 = some .string := by kernel_rfl
theorem und_bytes' : Tryz.prog.underlying 41 = some (.slice 5) := by kernel_rfl
theorem conv_one (W : World) (x : Int) : (convert 41 9 (.slice (some ⟨W.heap.size, 0, none⟩) 1 1)).run Tryz.prog (W.alloc (.cells #[.int .u8 x] 5)) = .ok (.string (letterOf x)) (W.alloc (.cells #[.int .u8 x] 5)) := by
  rw [run_convert_bytes_string _ _ _ 5 _ _ _ und_bytes' und_u8 und_str]
  refine run_bytesToString _ _ _ _ [x] ?_
  simp [loadCells, loadCellsFrom, go_sem]

set_option maxRecDepth 100000 in
set_option maxHeartbeats 1000000 in
theorem letters_any (n0 : Nat) (w : World) (h : n0 ≤ 140737488355328) :
    Calls Tryz.prog 46 #[.int .i64 n0] w fun e w' => e = .returned (.string (lettersF n0)) ∧ Kept nothing w w' := by
  have hcv := conv_one
  go_enter Tryz.func46, Tryz.ntmps46
  go_wp2
  go_loopw [0, 3, 4] (fun n s i wr => ∃ k : Nat, k ≤ 5 ∧ i = .int .i64 k ∧ n = .int .i64 ((lettersAt n0 k).1 : Nat) ∧ s = .string (lettersAt n0 k).2 ∧ Kept nothing w wr) (fun _ _ i _ => 5 - (intOf i).toNat)
  case atStart => exact ⟨0, by omega, rfl, rfl, rfl, Kept.refl _ _⟩
  case round =>
    obtain ⟨k, hk, rfl, rfl, rfl, hkp⟩ := hrel
    have hle := lettersAt_le n0 k
    have hsz := lettersAt_size n0 k
    by_cases hlt : k < 5
    · have Hs1 : Hid ((lettersAt n0 (k + 1)).1 = (lettersAt n0 k).1 / 26) := rfl
      have Hs2 : Hid ((lettersAt n0 (k + 1)).2 = letterOf (65 + ((lettersAt n0 k).1 : Int) % 26) ++ (lettersAt n0 k).2) := rfl
      have hsz5 : (lettersAt n0 k).2.size < 5 := by omega
      clear hsz
      generalize (lettersAt n0 k).1 = m at Hs1 Hs2 hle
      generalize (lettersAt n0 k).2 = t at Hs2 hsz5
      have hm26 : (m : Int) % 26 < 26 := by omega
      have hm0 : 0 ≤ (m : Int) % 26 := by omega
      have hl1 := letterOf_size (65 + (m : Int) % 26)
      have hl2 : ¬ 9223372036854775807 < 1 + t.size := by omega
      go_wp2
      go_roundw
      case rel => exact ⟨k + 1, by omega, by go_num, by rw [Hs1.out]; go_num, by rw [Hs2.out], hkp.alloc _⟩
      case measure => simp [intOf]; omega
    · have Hk : Hid (k = 5) := by show k = 5; omega
      clear hsz
      go_wp2
      go_ret
      exact ⟨ret_string (by rw [Hk.out]; rfl), hkp⟩
end Go.Proofs.YtdnjfjdhkmngjaaGreatDoor
