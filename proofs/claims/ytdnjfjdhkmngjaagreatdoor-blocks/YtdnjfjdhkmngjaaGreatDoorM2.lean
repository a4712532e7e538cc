import Derived.Test.YtdnjfjdhkmngjaaGreatDoorM1
namespace Go.Proofs.YtdnjfjdhkmngjaaGreatDoor
open Go.RowKit

def addNew (acc : List Nat) (x : Nat) : List Nat := if x = 0 ∨ x ∈ acc then acc else acc ++ [x]
def distinct (l : List Nat) : List Nat := l.foldl addNew []
/-- How many cells some blocks have. -/
def usedN (l : List Nat) : Nat := (distinct l).length

theorem distinct_snoc (l : List Nat) (x : Nat) : distinct (l ++ [x]) = addNew (distinct l) x := by simp [distinct]
theorem foldl_snoc_ind {P : List Nat → Prop} (h0 : P []) (hs : ∀ l x, P l → P (l ++ [x])) (l : List Nat) : P l := by
  have : ∀ n, ∀ l : List Nat, l.length = n → P l := by
    intro n
    induction n with
    | zero => intro l hl; rw [List.eq_nil_of_length_eq_zero hl]; exact h0
    | succ n ih =>
      intro l hl
      have hne : l ≠ [] := by intro h; simp [h] at hl
      rw [← List.dropLast_concat_getLast hne]
      exact hs _ _ (ih _ (by simp [hl]))
  exact this _ l rfl
theorem distinct_mem (l : List Nat) (x : Nat) : x ∈ distinct l ↔ x ≠ 0 ∧ x ∈ l := by
  refine foldl_snoc_ind (P := fun l => x ∈ distinct l ↔ x ≠ 0 ∧ x ∈ l) (by simp [distinct]) (fun l y ih => ?_) l
  rw [distinct_snoc]
  unfold addNew
  by_cases h : y = 0 ∨ y ∈ distinct l
  · rw [if_pos h, ih]
    constructor
    · rintro ⟨h1, h2⟩; exact ⟨h1, by simp [h2]⟩
    · rintro ⟨h1, h2⟩
      refine ⟨h1, ?_⟩
      simp only [List.mem_append, List.mem_singleton] at h2
      rcases h2 with h2 | h2
      · exact h2
      · subst h2
        rcases h with h | h
        · exact absurd h h1
        · exact (ih.1 h).2
  · rw [if_neg h]
    simp only [List.mem_append, List.mem_singleton, ih]
    constructor
    · rintro (⟨h1, h2⟩ | rfl)
      · exact ⟨h1, .inl h2⟩
      · exact ⟨fun h0 => h (.inl h0), .inr rfl⟩
    · rintro ⟨h1, h2 | rfl⟩
      · exact .inl ⟨h1, h2⟩
      · exact .inr rfl

/-- How many of the numbers below k are marked. -/
def countTo (m : List Nat) (k : Nat) : Nat := ((List.range k).filter fun i => decide (i ≠ 0) && decide (i ∈ m)).length
theorem countTo_zero (m : List Nat) : countTo m 0 = 0 := rfl
theorem countTo_one (m : List Nat) : countTo m 1 = 0 := by simp [countTo, List.range_succ]
theorem countTo_succ (m : List Nat) (k : Nat) : countTo m (k + 1) = countTo m k + if k ≠ 0 ∧ k ∈ m then 1 else 0 := by
  unfold countTo
  rw [List.range_succ, List.filter_append, List.length_append]
  congr 1
  by_cases h0 : k = 0 <;> by_cases h1 : k ∈ m <;> simp [h0, h1]
theorem countTo_le (m : List Nat) (k : Nat) : countTo m k ≤ k := by
  unfold countTo
  have := List.length_filter_le (fun i => decide (i ≠ 0) && decide (i ∈ m)) (List.range k)
  simpa using this
theorem countTo_snoc (m : List Nat) (x : Nat) : ∀ k, countTo (m ++ [x]) k = countTo m k + if x ≠ 0 ∧ x ∉ m ∧ x < k then 1 else 0
  | 0 => by simp [countTo_zero]
  | k + 1 => by
    rw [countTo_succ, countTo_succ, countTo_snoc m x k]
    by_cases hx0 : x = 0
    · subst hx0
      by_cases hk : k = 0
      · simp [hk]
      · simp [hk]
    · by_cases hxm : x ∈ m
      · by_cases hkx : k = x
        · subst hkx; simp [hxm]
        · simp [hxm, hkx]
      · by_cases hkx : k = x
        · subst hkx; simp [hxm, hx0]
        · have : (x < k + 1) ↔ (x < k) := by omega
          simp [hxm, hx0, hkx, this]
          omega
theorem countTo_used (m : List Nat) (N : Nat) (h : ∀ x ∈ m, x < N) : countTo m N = usedN m := by
  revert h
  refine foldl_snoc_ind (P := fun m => (∀ x ∈ m, x < N) → countTo m N = usedN m) ?_ ?_ m
  · intro _; simp [usedN, distinct, countTo]
  · intro l x ih h
    rw [countTo_snoc, ih (fun y hy => h y (by simp [hy]))]
    have hx := h x (by simp)
    unfold usedN
    rw [distinct_snoc]
    unfold addNew
    by_cases h0 : x = 0
    · simp [h0]
    · by_cases hm : x ∈ l
      · have : x ∈ distinct l := (distinct_mem l x).2 ⟨h0, hm⟩
        simp [h0, hm, this]
      · have : x ∉ distinct l := fun h => hm ((distinct_mem l x).1 h).2
        simp [h0, hm, this, hx]

/-- The cells of 'has'. -/
def hasCells (N : Nat) (m : List Nat) : List Value := (List.range N).map fun i => .bool (decide (i ∈ m))
theorem hasCells_len (N : Nat) (m : List Nat) : (hasCells N m).length = N := by simp [hasCells]
theorem hasCells_nil (N : Nat) : hasCells N [] = List.replicate N (.bool false) := by
  apply List.ext_getElem
  · simp [hasCells]
  · intro i h1 h2; simp [hasCells]
theorem hasCells_get (N : Nat) (m : List Nat) (i : Nat) (h : i < N) : (hasCells N m)[i]? = some (.bool (decide (i ∈ m))) := by simp [hasCells, h]
theorem hasCells_set (N : Nat) (m : List Nat) (c : Nat) : (hasCells N m).set c (.bool true) = hasCells N (m ++ [c]) := by
  apply List.ext_getElem
  · simp [hasCells]
  · intro i h1 h2
    simp only [hasCells, List.getElem_set, List.getElem_map, List.getElem_range, List.mem_append, List.mem_singleton]
    by_cases h : c = i
    · simp [h]
    · rw [if_neg h]
      have : ¬ i = c := fun e => h e.symm
      simp [this]

theorem usedN_le (l : List Nat) (N : Nat) (h : ∀ x ∈ l, x < N) : usedN l ≤ N := by rw [← countTo_used l N h]; exact countTo_le l N
theorem pairs_set {α : Type} (f g : α → Value) (l : List α) (i : Nat) (x : α) : ((l.set i x).flatMap fun t => [f t, g t]) = ((l.flatMap fun t => [f t, g t]).set (i * 2) (f x)).set (i * 2 + 1) (g x) := by
  induction l generalizing i with
  | nil => simp
  | cons y l ih =>
    cases i with
    | zero => simp
    | succ i =>
      rw [show (i + 1) * 2 = (i * 2) + 2 from by omega]
      simp [ih i]
theorem rcells_set (bs : List Blk) (k : Nat) (t : ByteArray) (c : Nat) : rcells (bs.set k (t, c)) = ((rcells bs).set (k * 2) (.string t)).set (k * 2 + 1) (.int .i64 (c : Int)) := pairs_set _ _ bs k (t, c)
theorem ids_take_succ (bs : List Blk) (k : Nat) (h : k < bs.length) : (bs.take (k + 1)).map (·.2) = (bs.take k).map (·.2) ++ [bs[k].2] := by
  rw [List.take_succ_eq_append_getElem h, List.map_append]; rfl
abbrev sids (sv : List SV) : List Nat := sv.flatMap fun t => t.2.2.map (·.2)
theorem sids_take_succ (sv : List SV) (k : Nat) (h : k < sv.length) : sids (sv.take (k + 1)) = sids (sv.take k) ++ sv[k].2.2.map (·.2) := by
  unfold sids
  rw [List.take_succ_eq_append_getElem h, List.flatMap_append]; simp
theorem sids_mem {sv : List SV} {x : Nat} (h : x ∈ sids sv) : ∃ t ∈ sv, ∃ b ∈ t.2.2, b.2 = x := by
  unfold sids at h
  simp only [List.mem_flatMap, List.mem_map] at h
  exact h
end Go.Proofs.YtdnjfjdhkmngjaaGreatDoor
