import Derived.Test.YtdnjfjdhkmngjaaGreatDoorG
namespace Go.Proofs.YtdnjfjdhkmngjaaGreatDoor
open Go.RowKit

/-- All cells' numbers of a volume. -/
abbrev allIds (R : Vol) : List Nat := R.blocks.map (·.2) ++ R.snaps.flatMap (fun t => t.2.map (·.2))

/-- The program's volume lies in memory. -/
structure PRep (w : World) (b : Nat) (ι : Nat → Nat) (R : Vol) (vn vs : Value) (sv : List SV) : Prop where
  vol : w.heap[b]? = some (.cells #[.int .i64 (R.pool : Int), vn, vs] 73 (0, 0))
  now : Tab w ι vn R.blocks
  snaps : w.ownsRow 0 84 2 vs sv.length (scells sv)
  out : R.snaps = sv.map SV.out
  each : ∀ t ∈ sv, Tab w ι t.2.1 t.2.2
  inj : InjOn ι (allIds R)

section
variable {w : World} {b : Nat} {ι : Nat → Nat} {R : Vol} {vn vs : Value} {sv : List SV}
theorem PRep.c0 (h : PRep w b ι R vn vs sv) : w.cell? ⟨b, 0, none⟩ = some (.int .i64 (R.pool : Int)) := blk_cell h.vol 0 rfl
theorem PRep.c1 (h : PRep w b ι R vn vs sv) : w.cell? ⟨b, 1, none⟩ = some vn := blk_cell h.vol 1 rfl
theorem PRep.c2 (h : PRep w b ι R vn vs sv) : w.cell? ⟨b, 2, none⟩ = some vs := blk_cell h.vol 2 rfl
theorem PRep.lt (h : PRep w b ι R vn vs sv) : b < w.heap.size := blk_lt h.vol
theorem PRep.fz (h : PRep w b ι R vn vs sv) (i : Nat) : w.frozen? ⟨b, i, none⟩ = false := blk_frozen h.vol i
theorem PRep.drew (h : PRep w b ι R vn vs sv) : PRep w.drew b ι R vn vs sv := ⟨h.vol, h.now.drew, h.snaps, h.out, fun t ht => (h.each t ht).drew, h.inj⟩
theorem PRep.kept {S : Nat → Prop} {w' : World} (h : PRep w b ι R vn vs sv) (hk : Kept S w w') (ha : ¬ S b) (hs : ∀ g, vs.ownBlock = some g → ¬ S g)
    (hrow : ∀ g cur, w.heap[g]? = some (.cells cur 151 (0, 0)) → ¬ S g) (hcell : ∀ g cur, w.heap[g]? = some (.cells cur 169 (0, 0)) → ¬ S g) : PRep w' b ι R vn vs sv :=
  ⟨hk.get h.vol ha, h.now.kept hk hrow hcell, owns_kept h.snaps hk hs, h.out, fun t ht => (h.each t ht).kept hk hrow hcell, h.inj⟩
theorem PRep.keptN {w' : World} (h : PRep w b ι R vn vs sv) (hk : Kept nothing w w') : PRep w' b ι R vn vs sv := h.kept hk (fun h => h) (fun _ _ h => h) (fun _ _ _ h => h) (fun _ _ _ h => h)
end

/-- An error of the program, and its code. -/
def ErrRep (w : World) (err : Value) (code : Int) : Prop :=
  (code = 0 ∧ err = .nilIface) ∨ (code ≠ 0 ∧ ∃ b f s, err = .iface 156 (.pointer (some ⟨b, 0, none⟩)) ∧ w.heap[b]? = some (.cells #[.string s, .pointer (some ⟨f, 0, none⟩)] 161 (0, 0)) ∧ w.heap[f]? = some (.cells #[.int .i64 code, .int .i64 0] 159 (0, 0)))
theorem ErrRep.nil (w : World) : ErrRep w .nilIface 0 := .inl ⟨rfl, rfl⟩
theorem ErrRep.kept {S : Nat → Prop} {w w' : World} {err : Value} {code : Int} (h : ErrRep w err code) (hk : Kept S w w') (h1 : ∀ g cur, w.heap[g]? = some (.cells cur 161 (0, 0)) → ¬ S g) (h2 : ∀ g cur, w.heap[g]? = some (.cells cur 159 (0, 0)) → ¬ S g) : ErrRep w' err code := by
  rcases h with h | ⟨h0, b, f, s, he, hb, hf⟩
  · exact .inl h
  · exact .inr ⟨h0, b, f, s, he, hk.get hb (h1 _ _ hb), hk.get hf (h2 _ _ hf)⟩
end Go.Proofs.YtdnjfjdhkmngjaaGreatDoor
