import Derived.Test.YtdnjfjdhkmngjaaGreatDoorM0
import Derived.Laws.AppendOwn
import Derived.Laws.OwnMore
import Derived.Below
namespace Go.Proofs.YtdnjfjdhkmngjaaGreatDoor
open Go.RowKit

/-- A block: its text, the number of its cell (0: none). -/
abbrev Blk := ByteArray × Nat
/-- A volume, told without memory. -/
structure Vol where
  pool : Nat
  blocks : List Blk
  snaps : List (ByteArray × List Blk)
  last : Nat

/-- A snapshot, with the slice that holds its blocks. -/
abbrev SV := ByteArray × Value × List Blk
def SV.out (t : SV) : ByteArray × List Blk := (t.1, t.2.2)

def rcells (bs : List Blk) : List Value := bs.flatMap fun b => [.string b.1, .int .i64 (b.2 : Int)]
def scells (sv : List SV) : List Value := sv.flatMap fun t => [.string t.1, t.2.1]

theorem pairs_get {α : Type} (f g : α → Value) (l : List α) (i : Nat) (x : α) (h : l[i]? = some x) :
    (l.flatMap fun t => [f t, g t])[i * 2]? = some (f x) ∧ (l.flatMap fun t => [f t, g t])[i * 2 + 1]? = some (g x) := by
  induction l generalizing i with
  | nil => simp at h
  | cons y l ih =>
    cases i with
    | zero => simp at h; subst h; simp
    | succ i =>
      simp at h
      have := ih i h
      rw [show (i + 1) * 2 = (i * 2) + 2 from by omega]
      simpa using this
theorem pairs_len {α : Type} (f g : α → Value) (l : List α) : (l.flatMap fun t => [f t, g t]).length = l.length * 2 := by
  induction l with
  | nil => simp
  | cons y l ih => simp [ih]; omega
theorem pairs_append {α : Type} (f g : α → Value) (l m : List α) : ((l ++ m).flatMap fun t => [f t, g t]) = (l.flatMap fun t => [f t, g t]) ++ (m.flatMap fun t => [f t, g t]) := by simp

theorem rcells_len (bs : List Blk) : (rcells bs).length = bs.length * 2 := pairs_len _ _ bs
theorem scells_len (sv : List SV) : (scells sv).length = sv.length * 2 := pairs_len _ _ sv

/-- What a slice's value looks like, and where its cells lie. -/
theorem owns_open {w : World} {e size : Nat} {v : Value} {n : Nat} {xs : List Value} (h : w.ownsRow 0 e size v n xs) :
    ∃ a cap, v = .slice a n cap ∧ n ≤ cap ∧ cap ≤ maxLen ∧ (0 < n → ∃ g, a = some ⟨g, 0, none⟩ ∧ g < w.heap.size ∧ ∀ j u, xs[j]? = some u → w.cell? ⟨g, j, none⟩ = some u) := by
  rcases h.2 with ⟨rfl, rfl⟩ | ⟨g, cap, cur, rfl, _, hg, hn, hm, _, _⟩
  · exact ⟨none, 0, rfl, Nat.le_refl _, by simp [maxLen], fun h => by omega⟩
  · refine ⟨some ⟨g, 0, none⟩, cap, rfl, hn, hm, fun _ => ⟨g, rfl, (Array.getElem?_eq_some_iff.1 hg).1, fun j u hu => ?_⟩⟩
    have := h.cells (g := g) rfl j u hu
    have hadd : (⟨g, 0, none⟩ : Addr).add j = ⟨g, j, none⟩ := by unfold Addr.add; split <;> simp_all
    rwa [hadd] at this

theorem owns_len {w : World} {e size : Nat} {v : Value} {n : Nat} {xs : List Value} (h : w.ownsRow 0 e size v n xs) : n ≤ maxLen := by
  obtain ⟨a, cap, _, h1, h2, _⟩ := owns_open h
  omega

/-- The world w' is as w was, but for blocks in S and new ones. -/
structure Kept (S : Nat → Prop) (w w' : World) : Prop where
  os : w'.os = w.os
  tape : w'.tape = w.tape
  output : w'.output = w.output
  size : w.heap.size ≤ w'.heap.size
  block : ∀ k, k < w.heap.size → ¬ S k → w'.heap[k]? = w.heap[k]?

abbrev nothing : Nat → Prop := fun _ => False

theorem Kept.refl (S : Nat → Prop) (w : World) : Kept S w w := ⟨rfl, rfl, rfl, Nat.le_refl _, fun _ _ _ => rfl⟩
theorem Kept.trans {S : Nat → Prop} {a b c : World} (h : Kept S a b) (k : Kept S b c) : Kept S a c :=
  ⟨k.os.trans h.os, k.tape.trans h.tape, k.output.trans h.output, Nat.le_trans h.size k.size, fun i hi hs => (k.block i (Nat.lt_of_lt_of_le hi h.size) hs).trans (h.block i hi hs)⟩
/-- The second step may write to what the first one has made. -/
theorem Kept.trans' {S T : Nat → Prop} {a b c : World} (h : Kept S a b) (k : Kept T b c) (hT : ∀ i, i < a.heap.size → T i → S i) : Kept S a c :=
  ⟨k.os.trans h.os, k.tape.trans h.tape, k.output.trans h.output, Nat.le_trans h.size k.size, fun i hi hs => (k.block i (Nat.lt_of_lt_of_le hi h.size) (fun t => hs (hT i hi t))).trans (h.block i hi hs)⟩
theorem Kept.mono {S T : Nat → Prop} {a b : World} (h : Kept S a b) (hST : ∀ i, i < a.heap.size → S i → T i) : Kept T a b :=
  ⟨h.os, h.tape, h.output, h.size, fun i hi hs => h.block i hi (fun s => hs (hST i hi s))⟩
theorem Kept.of_below {w w' : World} (h : Below w.heap.size w w') (S : Nat → Prop) : Kept S w w' := ⟨h.os, h.tape, h.output, h.size, fun k hk _ => h.block k hk⟩
theorem Kept.below {w w' : World} {S : Nat → Prop} (h : Kept S w w') {B : Nat} (hS : ∀ k, S k → B ≤ k) (hB : B ≤ w.heap.size) : Below B w w' :=
  ⟨h.os, h.tape, h.output, h.size, fun k hk => h.block k (by omega) (fun s => by have := hS k s; omega)⟩
theorem Kept.get {S : Nat → Prop} {w w' : World} (h : Kept S w w') {k : Nat} {o : Obj} (hk : w.heap[k]? = some o) (hs : ¬ S k) : w'.heap[k]? = some o :=
  (h.block k (Array.getElem?_eq_some_iff.1 hk).1 hs).trans hk
theorem Kept.cell {S : Nat → Prop} {w w' : World} (h : Kept S w w') {p : Addr} (hk : p.block < w.heap.size) (hs : ¬ S p.block) : w'.cell? p = w.cell? p :=
  World.cell?_of_block (h.block p.block hk hs)
theorem Kept.frozen {S : Nat → Prop} {w w' : World} (h : Kept S w w') {p : Addr} (hk : p.block < w.heap.size) (hs : ¬ S p.block) : w'.frozen? p = w.frozen? p :=
  World.frozen?_of_block (h.block p.block hk hs)
theorem Kept.drew {S : Nat → Prop} {a w : World} (h : Kept S a w) : Kept S a w.drew := ⟨h.os, h.tape, h.output, h.size, h.block⟩
theorem Kept.alloc {S : Nat → Prop} {a w : World} (h : Kept S a w) (o : Obj) : Kept S a (w.alloc o) :=
  h.trans ⟨rfl, rfl, rfl, by simp, fun k hk _ => Below.heap_alloc _ _ _ hk⟩
theorem Kept.setCell {S : Nat → Prop} {a w : World} (h : Kept S a w) {p : Addr} (hp : S p.block ∨ a.heap.size ≤ p.block) (u : Value) : Kept S a (w.setCell p u) := by
  refine h.trans' (T := fun k => k = p.block) ⟨rfl, rfl, rfl, by simp [World.setCell], fun k hk hs => Below.heap_setCell _ _ _ _ hs⟩ ?_
  rintro i hi rfl
  rcases hp with h | h
  · exact h
  · omega
theorem Kept.set_at {a : Nat} {w0 w : World} (h : Kept (fun k => k = a) w0 w) (i : Nat) (u : Value) : Kept (fun k => k = a) w0 (w.setCell ⟨a, i, none⟩ u) := h.setCell (p := ⟨a, i, none⟩) (.inl rfl) u
theorem Kept.grown {S : Nat → Prop} {a w w' : World} {row : Option Nat} (h : Kept S a w) (hg : w.grownBy w' row) (hr : ∀ k, row = some k → S k ∨ a.heap.size ≤ k) : Kept S a w' := by
  refine h.trans' (T := fun k => row = some k) ⟨hg.os, hg.tape, hg.output, hg.size, fun k hk hs => hg.block k hk (fun e => hs e.symm)⟩ ?_
  intro i hi e
  rcases hr i e with h | h
  · exact h
  · omega

/-- A slice reads as it did, if its row was not written. -/
theorem owns_kept {S : Nat → Prop} {w w' : World} {e size : Nat} {v : Value} {n : Nat} {xs : List Value} (h : w.ownsRow 0 e size v n xs) (hk : Kept S w w') (hs : ∀ g, v.ownBlock = some g → ¬ S g) : w'.ownsRow 0 e size v n xs := by
  refine ⟨h.1, ?_⟩
  rcases h.2 with hn | ⟨g, cap, cur, rfl, hb, hgg, rest⟩
  · exact .inl hn
  · exact .inr ⟨g, cap, cur, rfl, hb, hk.get hgg (hs g rfl), rest⟩
/-- The type of a slice's row. -/
theorem owns_tag {w : World} {e size : Nat} {v : Value} {n : Nat} {xs : List Value} (h : w.ownsRow 0 e size v n xs) {g : Nat} (hg : v.ownBlock = some g) : ∃ cur, w.heap[g]? = some (.cells cur e (0, 0)) := by
  rcases h.2 with ⟨rfl, _⟩ | ⟨g', cap, cur, rfl, hb, hgg, rest⟩
  · simp [Value.ownBlock] at hg
  · simp [Value.ownBlock] at hg; subst hg; exact ⟨cur, hgg⟩

theorem owns_frozen {w : World} {e size : Nat} {g n cap : Nat} {xs : List Value} (h : w.ownsRow 0 e size (.slice (some ⟨g, 0, none⟩) n cap) n xs) (j : Nat) : w.frozen? ⟨g, j, none⟩ = false := by
  rcases h.2 with ⟨h, _⟩ | ⟨g', cap', cur, hv, hb, hgg, rest⟩
  · cases h
  · simp only [Value.slice.injEq, Option.some.injEq, Addr.mk.injEq, and_true, true_and] at hv
    obtain ⟨rfl, rfl⟩ := hv
    simp [World.frozen?, hgg]
theorem owns_cell {w : World} {e size : Nat} {g n cap : Nat} {xs : List Value} (h : w.ownsRow 0 e size (.slice (some ⟨g, 0, none⟩) n cap) n xs) {j : Nat} {u : Value} (hu : xs[j]? = some u) : w.cell? ⟨g, j, none⟩ = some u := by
  have := h.cells (g := g) rfl j u hu
  have hadd : (⟨g, 0, none⟩ : Addr).add j = ⟨g, j, none⟩ := by unfold Addr.add; split <;> simp_all
  rwa [hadd] at this
/-- A store into a slice. -/
theorem owns_set {w : World} {e size : Nat} {g n cap : Nat} {xs : List Value} (h : w.ownsRow 0 e size (.slice (some ⟨g, 0, none⟩) n cap) n xs) (j : Nat) (u : Value) : (w.setCell ⟨g, j, none⟩ u).ownsRow 0 e size (.slice (some ⟨g, 0, none⟩) n cap) n (xs.set j u) := by
  refine ⟨by simp [h.1], ?_⟩
  rcases h.2 with ⟨h, _⟩ | ⟨g', cap', cur, hv, hb, hgg, h1, h2, h3, h4⟩
  · cases h
  · simp only [Value.slice.injEq, Option.some.injEq, Addr.mk.injEq, and_true, true_and] at hv
    obtain ⟨rfl, rfl⟩ := hv
    refine .inr ⟨g, cap, cur.setIfInBounds j u, rfl, hb, ?_, h1, h2, by simp [h3], ?_⟩
    · simp [World.setCell, Array.getElem?_modify, hgg]
    · rw [← h4]; simp [List.take_set]
theorem owns_len_eq {w : World} {e size : Nat} {v : Value} {n : Nat} {xs : List Value} (h : w.ownsRow 0 e size v n xs) : xs.length = n * size := h.1

/-- The number of a snapshot; -1: there is none. -/
def findF (l : List (ByteArray × List Blk)) (name : ByteArray) : Int :=
  match l.findIdx? (fun t => decide (t.1 = name)) with
  | some i => i
  | none => -1

theorem findF_hit (l : List (ByteArray × List Blk)) (name : ByteArray) (k : Nat) (x : ByteArray × List Blk) (hx : l[k]? = some x) (he : x.1 = name) (hno : ∀ j y, j < k → l[j]? = some y → y.1 ≠ name) : findF l name = k := by
  unfold findF
  have : l.findIdx? (fun t => decide (t.1 = name)) = some k := by
    rw [List.findIdx?_eq_some_iff_getElem]
    obtain ⟨hk, hx'⟩ := List.getElem?_eq_some_iff.1 hx
    refine ⟨hk, by simp [hx', he], fun j hj => ?_⟩
    have := hno j l[j] hj (by simp)
    simpa using this
  rw [this]
theorem findF_miss (l : List (ByteArray × List Blk)) (name : ByteArray) (hno : ∀ j y, j < l.length → l[j]? = some y → y.1 ≠ name) : findF l name = -1 := by
  unfold findF
  have : l.findIdx? (fun t => decide (t.1 = name)) = none := by
    rw [List.findIdx?_eq_none_iff]
    intro x hx
    obtain ⟨j, hj, rfl⟩ := List.getElem_of_mem hx
    have := hno j l[j] hj (by simp)
    simpa using this
  rw [this]
theorem findF_range (l : List (ByteArray × List Blk)) (name : ByteArray) : -1 ≤ findF l name ∧ findF l name < l.length := by
  unfold findF
  split
  · rename_i i h
    rw [List.findIdx?_eq_some_iff_getElem] at h
    obtain ⟨h, _⟩ := h
    omega
  · omega
end Go.Proofs.YtdnjfjdhkmngjaaGreatDoor
