import Derived.WalkKit
namespace Go.Proofs.YtdnjfjdhkmngjaaGreatDoor

def letterB (c : UInt8) : Bool := 97 ≤ c.toNat && c.toNat ≤ 122
/-- Is it a name? -/
def nameB (s : ByteArray) : Bool := s.data.toList.all letterB && decide (1 ≤ s.size) && decide (s.size ≤ 4)
def pickF (c n : Int) : Int := (if c < 0 then -(c + 1) else c) % n

theorem pickF_lt (c n : Int) (h : 0 < n) : 0 ≤ pickF c n ∧ pickF c n < n := by
  unfold pickF; exact ⟨Int.emod_nonneg _ (by omega), Int.emod_lt_of_pos _ h⟩

theorem all_take_succ (s : ByteArray) (k : Nat) (h : k < s.size) (hk : (s.data.toList.take k).all letterB = true) (hb : letterB s[k] = true) : (s.data.toList.take (k + 1)).all letterB = true := by
  rw [List.take_succ_eq_append_getElem (by simpa using h)]
  simp only [List.all_append, hk, Bool.true_and, List.all_cons, List.all_nil, Bool.and_true]
  exact hb
theorem nameB_bad (s : ByteArray) (k : Nat) (h : k < s.size) (hb : letterB s[k] = false) : nameB s = false := by
  unfold nameB
  have : s.data.toList.all letterB = false := by
    rw [List.all_eq_false]
    exact ⟨s.data.toList[k]'(by simpa using h), List.getElem_mem _, by simp; exact hb⟩
  simp [this]
theorem nameB_full (s : ByteArray) (h : (s.data.toList.take s.size).all letterB = true) : nameB s = (decide (1 ≤ s.size) && decide (s.size ≤ 4)) := by
  unfold nameB
  rw [List.take_of_length_le (by simp)] at h
  simp [h]
theorem nameB_len (s : ByteArray) (h : s.size < 1 ∨ 4 < s.size) : nameB s = false := by
  unfold nameB
  rcases h with h | h
  · have : decide (1 ≤ s.size) = false := decide_eq_false (by omega)
    simp [this]
  · have : decide (s.size ≤ 4) = false := decide_eq_false (by omega)
    simp [this]
theorem letterB_of (c : UInt8) (h1 : ¬ (c.toNat : Int) < 97) (h2 : ¬ 122 < (c.toNat : Int)) : letterB c = true := by
  simp [letterB]; omega
theorem letterB_no (c : UInt8) (h : (c.toNat : Int) < 97 ∨ 122 < (c.toNat : Int)) : letterB c = false := by
  simp [letterB]; omega

theorem str_eq (a b : ByteArray) : (a.toList == b.toList) = decide (a = b) := by
  rw [ByteArray.toList_eq, ByteArray.toList_eq, Bool.eq_iff_iff]
  simp only [beq_iff_eq, decide_eq_true_eq]
  constructor
  · intro h
    cases a; cases b
    simp only [ByteArray.mk.injEq]
    exact Array.toList_inj.1 h
  · rintro rfl; rfl
theorem str_yes {a b : ByteArray} (h : a = b) : (a.toList == b.toList) = true := by rw [str_eq]; simp [h]
theorem str_no {a b : ByteArray} (h : a ≠ b) : (a.toList == b.toList) = false := by rw [str_eq]; simp [h]
theorem str_of_yes {a b : ByteArray} (h : (a.toList == b.toList) = true) : a = b := by rw [str_eq] at h; simpa using h
theorem str_of_no {a b : ByteArray} (h : (a.toList == b.toList) = false) : a ≠ b := by rw [str_eq] at h; simpa using h
theorem str_empty (a : ByteArray) : a.toList.isEmpty = decide (a = ⟨#[]⟩) := by
  rw [ByteArray.toList_eq, Bool.eq_iff_iff]
  simp only [List.isEmpty_iff, decide_eq_true_eq]
  constructor
  · intro h
    cases a
    simp only [ByteArray.mk.injEq]
    exact Array.toList_inj.1 (by simpa using h)
  · rintro rfl; rfl

theorem ret_int {k : IntKind} {a b : Int} (h : a = b) : Ending.returned (.int k a) = .returned (.int k b) := by rw [h]
theorem ret_bool {a b : Bool} (h : a = b) : Ending.returned (.bool a) = .returned (.bool b) := by rw [h]
theorem ret_string {a b : ByteArray} (h : a = b) : Ending.returned (.string a) = .returned (.string b) := by rw [h]
end Go.Proofs.YtdnjfjdhkmngjaaGreatDoor
