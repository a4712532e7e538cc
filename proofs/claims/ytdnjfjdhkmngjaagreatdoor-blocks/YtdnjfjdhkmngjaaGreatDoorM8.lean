import Derived.Test.YtdnjfjdhkmngjaaGreatDoorM7
import Derived.Lib.AppendStr
import Derived.Laws.BitsAll
namespace Go.Proofs.YtdnjfjdhkmngjaaGreatDoor
open Go.RowKit

/-! ### Sums and streams, told without memory -/
def fnvStep (h : Nat) (b : UInt8) : Nat := (h ^^^ b.toNat) * 16777619 % 4294967296
def fnvL (l : List UInt8) : Nat := l.foldl fnvStep 2166136261
theorem fnvL_snoc (l : List UInt8) (b : UInt8) : fnvL (l ++ [b]) = fnvStep (fnvL l) b := by
  unfold fnvL
  rw [List.foldl_append, List.foldl_cons, List.foldl_nil]
theorem fnvStep_lt (h : Nat) (b : UInt8) : fnvStep h b < 4294967296 := Nat.mod_lt _ (by decide)
theorem fnvL_lt (l : List UInt8) : fnvL l < 4294967296 := by
  rcases List.eq_nil_or_concat l with rfl | ⟨l', b, rfl⟩
  · simp [fnvL]
  · rw [List.concat_eq_append, fnvL_snoc]; exact fnvStep_lt _ _
/-- A sum as four bytes. -/
def sum4 (n : Nat) : List UInt8 := [UInt8.ofNat n, UInt8.ofNat (n / 256), UInt8.ofNat (n / 65536), UInt8.ofNat (n / 16777216)]
def fnv4 (l : List UInt8) : List UInt8 := sum4 (fnvL l)
def textL (t : ByteArray) : List UInt8 := UInt8.ofNat t.size :: t.data.toList
def baseL (ts : List ByteArray) : List UInt8 := ts.flatMap textL
def recOf (old new : List ByteArray) (k : Nat) : List UInt8 :=
  if new[k]?.getD ⟨#[]⟩ = old[k]?.getD ⟨#[]⟩ then [] else UInt8.ofNat (k + 1) :: textL (new[k]?.getD ⟨#[]⟩)
/-- The records of the first k blocks. -/
def recL (old new : List ByteArray) : Nat → List UInt8
  | 0 => []
  | k + 1 => recL old new k ++ recOf old new k
/-- What stands ahead of the last sum. -/
def bodyL (head : List UInt8) (old new : List ByteArray) : List UInt8 := head ++ recL old new new.length ++ [0]
def finishL (head : List UInt8) (old new : List ByteArray) : List UInt8 := bodyL head old new ++ fnv4 (bodyL head old new)
def wholeHead (n : Nat) : List UInt8 := [77, 49, UInt8.ofNat n, 0, 0, 0, 0, 0]
def sinceHead (n : Nat) (base : List ByteArray) : List UInt8 := [77, 49, UInt8.ofNat n, 1] ++ fnv4 (baseL base)
def wholeL (new : List ByteArray) : List UInt8 := finishL (wholeHead new.length) (List.replicate new.length ⟨#[]⟩) new
def sinceL (base new : List ByteArray) : List UInt8 := finishL (sinceHead new.length base) base new
def texts (bs : List Blk) : List ByteArray := bs.map (·.1)
theorem texts_len (bs : List Blk) : (texts bs).length = bs.length := by simp [texts]

def snapOf (R : Vol) (name : ByteArray) : List Blk := (R.snaps[(findF R.snaps name).toNat]?.getD (⟨#[]⟩, [])).2
/-- Send: the stream, the code. -/
def sendF (R : Vol) (fr to : ByteArray) : List UInt8 × Int :=
  if nameB to = false ∨ (nameB fr = false ∧ fr ≠ ⟨#[]⟩) then ([], 3)
  else if findF R.snaps to < 0 ∨ (findF R.snaps fr < 0 ∧ fr ≠ ⟨#[]⟩) then ([], 4)
  else if findF R.snaps to ≤ findF R.snaps fr then ([], 7)
  else if fr = ⟨#[]⟩ then (wholeL (texts (snapOf R to)), 0)
  else (sinceL (texts (snapOf R fr)) (texts (snapOf R to)), 0)

theorem findF_empty {R : Vol} (hG : Good R) : findF R.snaps ⟨#[]⟩ = -1 := by
  refine findF_miss _ _ (fun j y hj hy he => ?_)
  have := (hG.names y (List.mem_of_getElem? hy)).1
  rw [he] at this
  exact absurd this (by decide)

theorem sum4_len (n : Nat) : (sum4 n).length = 4 := rfl
theorem textL_len (t : ByteArray) : (textL t).length = t.size + 1 := by simp [textL]
theorem recOf_len (old new : List ByteArray) (k : Nat) (h : ∀ t ∈ new, t.size ≤ 6) : (recOf old new k).length ≤ 8 := by
  unfold recOf
  split
  · simp
  · simp only [List.length_cons, textL_len]
    cases hk : new[k]? with
    | none => simp [ByteArray.size]
    | some t => have := h t (List.mem_of_getElem? hk); simp; omega
theorem recL_len (old new : List ByteArray) (h : ∀ t ∈ new, t.size ≤ 6) : ∀ k, (recL old new k).length ≤ 8 * k
  | 0 => by simp [recL]
  | k + 1 => by
    have h1 := recL_len old new h k
    have h2 := recOf_len old new k h
    simp only [recL, List.length_append]; omega
theorem baseL_len (ts : List ByteArray) (h : ∀ t ∈ ts, t.size ≤ 6) : (baseL ts).length ≤ 7 * ts.length := by
  induction ts with
  | nil => simp [baseL]
  | cons t l ih =>
    have h1 := h t (by simp)
    have h2 := ih (fun x hx => h x (by simp [hx]))
    simp only [baseL, List.flatMap_cons, List.length_append, textL_len, List.length_cons] at h2 ⊢
    omega
theorem bodyL_len (head : List UInt8) (old new : List ByteArray) (h : ∀ t ∈ new, t.size ≤ 6) : (bodyL head old new).length ≤ head.length + 8 * new.length + 1 := by
  have := recL_len old new h new.length
  simp only [bodyL, List.length_append, List.length_cons, List.length_nil]; omega
theorem finishL_len (head : List UInt8) (old new : List ByteArray) (h : ∀ t ∈ new, t.size ≤ 6) : (finishL head old new).length ≤ head.length + 8 * new.length + 5 := by
  have := bodyL_len head old new h
  simp only [finishL, List.length_append, fnv4, sum4_len]; omega
/-- A snapshot that is there. -/
theorem snapOf_good {R : Vol} (hG : Good R) (name : ByteArray) (h : 0 ≤ findF R.snaps name) : (snapOf R name).length = R.blocks.length ∧ ∀ x ∈ snapOf R name, x.1.size ≤ 6 := by
  have hr := findF_range R.snaps name
  obtain ⟨q, hq⟩ := Int.eq_ofNat_of_zero_le h
  have hql : q < R.snaps.length := by omega
  have he : snapOf R name = (R.snaps[q]).2 := by unfold snapOf; rw [hq]; simp [hql]
  rw [he]
  exact ⟨hG.lens _ (List.getElem_mem _), hG.stexts _ (List.getElem_mem _)⟩
theorem texts_small {bs : List Blk} (h : ∀ x ∈ bs, x.1.size ≤ 6) : ∀ t ∈ texts bs, t.size ≤ 6 := by
  intro t ht
  obtain ⟨x, hx, rfl⟩ := List.mem_map.1 ht
  exact h x hx
theorem sendF_len {R : Vol} (hG : Good R) (fr to : ByteArray) : (sendF R fr to).1.length ≤ 141 := by
  unfold sendF
  split
  · simp
  split
  · simp
  split
  · simp
  rename_i h1 h2 h3
  have hto : 0 ≤ findF R.snaps to := by omega
  have hs := snapOf_good hG to hto
  have hfew := hG.few
  split
  · have := finishL_len (wholeHead (texts (snapOf R to)).length) (List.replicate (texts (snapOf R to)).length ⟨#[]⟩) _ (texts_small hs.2)
    simp only [wholeL, wholeHead, texts_len, List.length_cons, List.length_nil] at this ⊢
    omega
  · have := finishL_len (sinceHead (texts (snapOf R to)).length (texts (snapOf R fr))) (texts (snapOf R fr)) _ (texts_small hs.2)
    simp only [sinceL, sinceHead, texts_len, List.length_append, List.length_cons, List.length_nil, fnv4, sum4_len] at this ⊢
    omega
theorem sendF_code (R : Vol) (fr to : ByteArray) : (sendF R fr to).2 ≠ 8 ∧ (sendF R fr to).2 ≠ 9 := by
  unfold sendF; repeat' split
  all_goals simp
end Go.Proofs.YtdnjfjdhkmngjaaGreatDoor
