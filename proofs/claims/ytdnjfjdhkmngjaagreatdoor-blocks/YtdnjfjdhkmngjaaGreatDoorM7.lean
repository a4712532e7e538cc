import Derived.Test.YtdnjfjdhkmngjaaGreatDoorM6
namespace Go.Proofs.YtdnjfjdhkmngjaaGreatDoor
open Go.RowKit

theorem putF_len (R : Vol) (k : Nat) (text : ByteArray) : (putF R k text).length = R.blocks.length := by simp [putF]
theorem putF_texts {R : Vol} {k : Nat} {text : ByteArray} {x : Blk} (h : x ∈ putF R k text) : x ∈ R.blocks ∨ x.1 = text := by
  rcases List.mem_or_eq_of_mem_set h with h | h
  · exact .inl h
  · subst h; exact .inr rfl
theorem putF_ids {R : Vol} (hG : Good R) {k : Nat} {text : ByteArray} {x : Blk} (h : x ∈ putF R k text) : x.2 ≤ R.last + 1 := by
  rcases List.mem_or_eq_of_mem_set h with h | h
  · have := hG.ids x h; omega
  · subst h
    by_cases ht : text = ⟨#[]⟩
    · simp [ht]
    · simp [ht]
theorem good_write {R : Vol} (hG : Good R) (block : Int) (text : ByteArray) : Good (writeF R block text).1 ∧ (writeF R block text).1.last ≤ R.last + 1 := by
  unfold writeF
  split
  · exact ⟨hG, by simp⟩
  split
  · exact ⟨hG, by simp⟩
  split
  · exact ⟨hG, by simp⟩
  split
  · exact ⟨hG, by simp⟩
  · rename_i h1 h2 h3 h4
    refine ⟨⟨hG.pool, ?_, ?_, hG.snaps, ?_, fun x hx => putF_ids hG hx, ?_, hG.names, ?_, hG.stexts, ?_⟩, Nat.le_refl _⟩
    · simp only [putF_len]; exact hG.some
    · simp only [putF_len]; exact hG.few
    · intro t ht; simp only [putF_len]; exact hG.lens t ht
    · intro t ht x hx; have := hG.sids t ht x hx; show x.2 ≤ R.last + 1; omega
    · intro x hx
      rcases putF_texts hx with h | h
      · exact hG.texts x h
      · rw [h]; omega
    · have : ¬ R.pool < usedF R (putF R block.toNat text) := h4
      show usedF R (putF R block.toNat text) ≤ R.pool
      omega
theorem distinct_same_mem {l m : List Nat} (h : ∀ x, x ∈ l ↔ x ∈ m) : usedN l = usedN m := by
  have hb : ∀ l : List Nat, ∃ N, ∀ x ∈ l, x < N := by
    intro l
    induction l with
    | nil => exact ⟨0, by simp⟩
    | cons a l ih =>
      obtain ⟨N, hN⟩ := ih
      refine ⟨max N (a + 1), fun x hx => ?_⟩
      simp only [List.mem_cons] at hx
      rcases hx with rfl | hx
      · omega
      · have := hN x hx; omega
  obtain ⟨N, hN⟩ := hb l
  rw [← countTo_used l N hN, ← countTo_used m N (fun x hx => hN x ((h x).2 hx))]
  unfold countTo
  congr 1
  apply List.filter_congr
  intro i _
  simp [h i]
theorem used_sub {l m : List Nat} (h : ∀ x ∈ l, x ∈ m) : usedN l ≤ usedN m := by
  have hb : ∃ N, ∀ x ∈ m, x < N := by
    clear h
    induction m with
    | nil => exact ⟨0, by simp⟩
    | cons a l ih =>
      obtain ⟨N, hN⟩ := ih
      refine ⟨max N (a + 1), fun x hx => ?_⟩
      simp only [List.mem_cons] at hx
      rcases hx with rfl | hx
      · omega
      · have := hN x hx; omega
  obtain ⟨N, hN⟩ := hb
  rw [← countTo_used l N (fun x hx => hN x (h x hx)), ← countTo_used m N hN]
  unfold countTo
  generalize List.range N = r
  induction r with
  | nil => simp
  | cons i r ih =>
    simp only [List.filter_cons]
    by_cases h0 : i = 0
    · simp [h0]; simpa using ih
    · by_cases h1 : i ∈ l
      · have h2 := h i h1
        simp [h0, h1, h2]; simpa using ih
      · by_cases h2 : i ∈ m
        · simp [h0, h1, h2]
          have : (List.filter (fun i => decide (i ≠ 0) && decide (i ∈ l)) r).length ≤ (List.filter (fun i => decide (i ≠ 0) && decide (i ∈ m)) r).length := ih
          simp at this
          omega
        · simp [h0, h1, h2]; simpa using ih
theorem good_snap {R : Vol} (hG : Good R) (name : ByteArray) : Good (snapF R name).1 ∧ (snapF R name).1.last = R.last := by
  unfold snapF
  split
  · exact ⟨hG, rfl⟩
  split
  · exact ⟨hG, rfl⟩
  · rename_i h1 h2
    have hfr : freshF R name = 0 := by simpa using h2
    have h6 : R.snaps.length < 6 := by
      unfold freshF at hfr
      split at hfr
      · omega
      · split at hfr
        · omega
        · omega
    have hname : 1 ≤ name.size ∧ name.size ≤ 4 := by
      have : nameB name = true := by simpa using h1
      simp only [nameB, Bool.and_eq_true, decide_eq_true_eq] at this
      exact ⟨this.1.2, this.2⟩
    refine ⟨⟨hG.pool, hG.some, hG.few, ?_, ?_, hG.ids, ?_, ?_, hG.texts, ?_, ?_⟩, rfl⟩
    · simp; omega
    · intro t ht
      rw [List.mem_append] at ht
      rcases ht with ht | ht
      · exact hG.lens t ht
      · simp at ht; subst ht; rfl
    · intro t ht
      rw [List.mem_append] at ht
      rcases ht with ht | ht
      · exact hG.sids t ht
      · simp at ht; subst ht; exact hG.ids
    · intro t ht
      rw [List.mem_append] at ht
      rcases ht with ht | ht
      · exact hG.names t ht
      · simp at ht; subst ht; exact hname
    · intro t ht
      rw [List.mem_append] at ht
      rcases ht with ht | ht
      · exact hG.stexts t ht
      · simp at ht; subst ht; exact hG.texts
    · refine Nat.le_trans (used_sub ?_) hG.fits
      intro x hx
      simp only [List.mem_append, List.flatMap_append, List.flatMap_cons, List.flatMap_nil, List.append_nil] at hx ⊢
      rcases hx with h | h | h
      · exact .inl h
      · exact .inr h
      · exact .inl h
theorem good_drop {R : Vol} (hG : Good R) (name : ByteArray) : Good (dropF R name).1 ∧ (dropF R name).1.last = R.last := by
  unfold dropF
  split
  · exact ⟨hG, rfl⟩
  split
  · exact ⟨hG, rfl⟩
  · have hsub : ∀ t ∈ R.snaps.eraseIdx (findF R.snaps name).toNat, t ∈ R.snaps := fun t ht => List.mem_of_mem_eraseIdx ht
    refine ⟨⟨hG.pool, hG.some, hG.few, ?_, fun t ht => hG.lens t (hsub t ht), hG.ids, fun t ht => hG.sids t (hsub t ht), fun t ht => hG.names t (hsub t ht), hG.texts, fun t ht => hG.stexts t (hsub t ht), ?_⟩, rfl⟩
    · have := List.length_eraseIdx_le R.snaps (findF R.snaps name).toNat
      have := hG.snaps
      show (R.snaps.eraseIdx _).length ≤ 6
      omega
    · refine Nat.le_trans (used_sub ?_) hG.fits
      intro x hx
      simp only [List.mem_append, List.mem_flatMap] at hx ⊢
      rcases hx with h | ⟨t, ht, h⟩
      · exact .inl h
      · exact .inr ⟨t, hsub t ht, h⟩
theorem good_new {blocks pool : Nat} (h1 : 1 ≤ blocks) (h2 : blocks ≤ 16) (h4 : pool ≤ 40) : Good (newVol blocks pool) := by
  refine ⟨h4, by simpa [newVol] using h1, by simpa [newVol] using h2, by simp [newVol], by simp [newVol], ?_, by simp [newVol], by simp [newVol], ?_, by simp [newVol], ?_⟩
  · intro x hx; simp [newVol] at hx; rw [hx.2]; simp [newVol]
  · intro x hx; simp [newVol] at hx; rw [hx.2]; exact Nat.zero_le _
  · refine Nat.le_trans (used_sub (m := [0]) ?_) (by simp [usedN, distinct, addNew])
    intro x hx
    simp [newVol] at hx
    simp [hx.2]
/-- The codes of the calls. -/
theorem codes_no (R : Vol) (name text : ByteArray) (block : Int) : ((readF R name block).2 ≠ 8 ∧ (readF R name block).2 ≠ 9) ∧ ((writeF R block text).2 ≠ 8 ∧ (writeF R block text).2 ≠ 9) ∧ ((snapF R name).2 ≠ 8 ∧ (snapF R name).2 ≠ 9) ∧ ((dropF R name).2 ≠ 8 ∧ (dropF R name).2 ≠ 9) := by
  refine ⟨?_, ?_, ?_, ?_⟩
  · unfold readF readB; repeat' split
    all_goals simp
  · unfold writeF; repeat' split
    all_goals simp
  · unfold snapF freshF; repeat' split
    all_goals simp
  · unfold dropF; repeat' split
    all_goals simp
end Go.Proofs.YtdnjfjdhkmngjaaGreatDoor
