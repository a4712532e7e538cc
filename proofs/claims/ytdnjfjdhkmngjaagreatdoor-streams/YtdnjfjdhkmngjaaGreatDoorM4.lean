import Derived.Test.YtdnjfjdhkmngjaaGreatDoorM3
namespace Go.Proofs.YtdnjfjdhkmngjaaGreatDoor
open Go.RowKit

def ptrO (ι : Nat → Nat) (c : Nat) : Option Addr := if c = 0 then none else some ⟨ι c, 0, none⟩
def ptr (ι : Nat → Nat) (c : Nat) : Value := .pointer (ptrO ι c)
def pcells (ι : Nat → Nat) (bs : List Blk) : List Value := bs.map fun b => ptr ι b.2
theorem ptr_zero (ι : Nat → Nat) : ptr ι 0 = .pointer none := rfl
theorem ptr_pos (ι : Nat → Nat) {c : Nat} (h : c ≠ 0) : ptr ι c = .pointer (some ⟨ι c, 0, none⟩) := by simp [ptr, ptrO, h]

/-- A table of the program: its slice holds the cells of these blocks. -/
structure Tab (w : World) (ι : Nat → Nat) (v : Value) (bs : List Blk) : Prop where
  row : w.ownsRow 0 151 1 v bs.length (pcells ι bs)
  zero : ∀ x ∈ bs, x.2 = 0 → x.1 = ⟨#[]⟩
  cell : ∀ x ∈ bs, x.2 ≠ 0 → x.1 ≠ ⟨#[]⟩ ∧ w.heap[ι x.2]? = some (.cells #[.string x.1] 169 (0, 0))

/-- It stays, if no row of cells and no cell was written. -/
theorem Tab.kept {S : Nat → Prop} {w w' : World} {ι : Nat → Nat} {v : Value} {bs : List Blk} (h : Tab w ι v bs) (hk : Kept S w w')
    (hrow : ∀ g cur, w.heap[g]? = some (.cells cur 151 (0, 0)) → ¬ S g) (hcell : ∀ g cur, w.heap[g]? = some (.cells cur 169 (0, 0)) → ¬ S g) : Tab w' ι v bs :=
  ⟨owns_kept h.row hk (fun g hg => by obtain ⟨cur, hc⟩ := owns_tag h.row hg; exact hrow g cur hc), h.zero,
   fun x hx h0 => ⟨(h.cell x hx h0).1, hk.get (h.cell x hx h0).2 (hcell _ _ (h.cell x hx h0).2)⟩⟩
theorem Tab.keptN {w w' : World} {ι : Nat → Nat} {v : Value} {bs : List Blk} (h : Tab w ι v bs) (hk : Kept nothing w w') : Tab w' ι v bs := h.kept hk (fun _ _ _ h => h) (fun _ _ _ h => h)
theorem Tab.drew {w : World} {ι : Nat → Nat} {v : Value} {bs : List Blk} (h : Tab w ι v bs) : Tab w.drew ι v bs := ⟨h.row, h.zero, h.cell⟩

def upd (ι : Nat → Nat) (id nb : Nat) : Nat → Nat := fun c => if c = id then nb else ι c
theorem upd_ne {ι : Nat → Nat} {id nb c : Nat} (h : c ≠ id) : upd ι id nb c = ι c := by simp [upd, h]
theorem upd_eq {ι : Nat → Nat} {id nb : Nat} : upd ι id nb id = nb := by simp [upd]
theorem ptr_upd {ι : Nat → Nat} {id nb c : Nat} (h : c ≠ id) : ptr (upd ι id nb) c = ptr ι c := by simp [ptr, ptrO, upd_ne h]
theorem pcells_upd {ι : Nat → Nat} {id nb : Nat} {bs : List Blk} (h : ∀ x ∈ bs, x.2 ≠ id) : pcells (upd ι id nb) bs = pcells ι bs := by
  unfold pcells
  exact List.map_congr_left (fun x hx => ptr_upd (h x hx))
theorem Tab.upd {w : World} {ι : Nat → Nat} {v : Value} {bs : List Blk} {id nb : Nat} (h : Tab w ι v bs) (hid : ∀ x ∈ bs, x.2 ≠ id) : Tab w (upd ι id nb) v bs :=
  ⟨by rw [pcells_upd hid]; exact h.row, h.zero, fun x hx h0 => by rw [upd_ne (hid x hx)]; exact h.cell x hx h0⟩

theorem pcells_len (ι : Nat → Nat) (bs : List Blk) : (pcells ι bs).length = bs.length * 1 := by simp [pcells]
theorem pcells_get (ι : Nat → Nat) (bs : List Blk) (k : Nat) (x : Blk) (h : bs[k]? = some x) : (pcells ι bs)[k]? = some (ptr ι x.2) := by simp [pcells, h]
theorem pcells_set (ι : Nat → Nat) (bs : List Blk) (k : Nat) (x : Blk) : pcells ι (bs.set k x) = (pcells ι bs).set k (ptr ι x.2) := by simp [pcells, List.map_set]
theorem pcells_one (ι : Nat → Nat) (bs : List Blk) : ∀ u ∈ pcells ι bs, u.oneCell' = true := by
  intro u hu
  simp only [pcells, List.mem_map] at hu
  obtain ⟨b, _, rfl⟩ := hu
  rfl
theorem tab_put {w : World} {ι : Nat → Nat} {vo : Value} {bs : List Blk} {k g cap r id nb : Nat} {c : Array Value} {text : ByteArray} (ho : w.ownsRow 0 151 1 (.slice (some ⟨g, 0, none⟩) bs.length cap) bs.length (pcells ι bs)) (hT : Tab w ι vo bs)
    (hr : w.heap[r]? = some (.cells c 70 (0, 0))) (hid0 : id ≠ 0) (hid : ∀ x ∈ bs, x.2 ≠ id) (hc : text ≠ ⟨#[]⟩ → w.heap[nb]? = some (.cells #[.string text] 169 (0, 0))) (x : Value) (p : Value) (hp : p = ptr (Go.Proofs.YtdnjfjdhkmngjaaGreatDoor.upd ι id nb) (if text = ⟨#[]⟩ then 0 else id)) :
    Tab ((w.setCell ⟨g, k, none⟩ p).setCell ⟨r, 0, none⟩ x) (Go.Proofs.YtdnjfjdhkmngjaaGreatDoor.upd ι id nb) (.slice (some ⟨g, 0, none⟩) bs.length cap) (bs.set k (text, if text = ⟨#[]⟩ then 0 else id)) := by
  subst hp
  obtain ⟨cur, hg⟩ := owns_tag ho (g := g) rfl
  have hgr : g ≠ r := blk_ne hg hr (by decide)
  have hK : Kept (fun j => j = g ∨ j = r) w ((w.setCell ⟨g, k, none⟩ (ptr (Go.Proofs.YtdnjfjdhkmngjaaGreatDoor.upd ι id nb) (if text = ⟨#[]⟩ then 0 else id))).setCell ⟨r, 0, none⟩ x) :=
    ((Kept.refl _ w).setCell (p := ⟨g, k, none⟩) (.inl (.inl rfl)) _).setCell (p := ⟨r, 0, none⟩) (.inl (.inr rfl)) _
  have hcell : ∀ j cur', w.heap[j]? = some (.cells cur' 169 (0, 0)) → ¬ (j = g ∨ j = r) := by
    rintro j cur' hj (rfl | rfl)
    · exact blk_ne hj hg (by decide) rfl
    · exact blk_ne hj hr (by decide) rfl
  refine ⟨?_, ?_, ?_⟩
  · rw [List.length_set, pcells_set, pcells_upd hid]
    refine owns_kept (owns_set ho k _) ((Kept.refl (fun j => j = r) _).set_at 0 x) (fun j hj h => ?_)
    simp [Value.ownBlock] at hj
    omega
  · intro y hy h0
    rcases List.mem_or_eq_of_mem_set hy with h | h
    · exact hT.zero y h h0
    · subst h
      by_cases ht : text = ⟨#[]⟩
      · exact ht
      · simp [ht] at h0; exact absurd h0 hid0
  · intro y hy h0
    rcases List.mem_or_eq_of_mem_set hy with h | h
    · rw [upd_ne (hid y h)]
      exact ⟨(hT.cell y h h0).1, hK.get (hT.cell y h h0).2 (hcell _ _ (hT.cell y h h0).2)⟩
    · subst h
      by_cases ht : text = ⟨#[]⟩
      · simp [ht] at h0
      · refine ⟨ht, ?_⟩
        have h1 := hK.get (hc ht) (hcell _ _ (hc ht))
        simp only [if_neg ht, upd_eq] at h1 ⊢
        exact h1
end Go.Proofs.YtdnjfjdhkmngjaaGreatDoor
