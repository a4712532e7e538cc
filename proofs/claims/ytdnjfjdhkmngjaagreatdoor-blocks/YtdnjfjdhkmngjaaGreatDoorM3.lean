import Derived.Test.YtdnjfjdhkmngjaaGreatDoorM2
import Derived.Test.YtdnjfjdhkmngjaaGreatDoorChecked
import Derived.OwnWalk
namespace Go.Proofs.YtdnjfjdhkmngjaaGreatDoor
open Go.RowKit

theorem owns_weaken {w : World} {base e size : Nat} {v : Value} {n : Nat} {xs : List Value} (h : w.ownsRow base e size v n xs) : w.ownsRow 0 e size v n xs := by
  refine ⟨h.1, ?_⟩
  rcases h.2 with hn | ⟨g, cap, cur, rfl, hb, hgg, rest⟩
  · exact .inl hn
  · exact .inr ⟨g, cap, cur, rfl, Nat.zero_le _, hgg, rest⟩
theorem owns_above {w : World} {base e size : Nat} {v : Value} {n : Nat} {xs : List Value} (h : w.ownsRow base e size v n xs) {g : Nat} (hg : v.ownBlock = some g) : base ≤ g := (h.lt g hg).1
theorem owns_lift {w : World} {base e size : Nat} {v : Value} {n : Nat} {xs : List Value} (h : w.ownsRow 0 e size v n xs) (hb : ∀ g, v.ownBlock = some g → base ≤ g) : w.ownsRow base e size v n xs := by
  refine ⟨h.1, ?_⟩
  rcases h.2 with hn | ⟨g, cap, cur, rfl, _, hgg, rest⟩
  · exact .inl hn
  · exact .inr ⟨g, cap, cur, rfl, hb g rfl, hgg, rest⟩
/-- A slice's value is a slice. -/
theorem owns_one {w : World} {base e size : Nat} {v : Value} {n : Nat} {xs : List Value} (h : w.ownsRow base e size v n xs) : v.oneCell' = true := by
  rcases h.2 with ⟨rfl, _⟩ | ⟨g, cap, cur, rfl, _⟩ <;> rfl
theorem owns_cell_at {w : World} {e size : Nat} {a : Addr} {n cap : Nat} {xs : List Value} (h : w.ownsRow 0 e size (.slice (some a) n cap) n xs) {j : Nat} {u : Value} (hu : xs[j]? = some u) : w.cell? (a.add j) = some u := by
  have := h.cells (g := a.block) rfl j u hu
  rcases h.2 with ⟨h, _⟩ | ⟨g', cap', cur, hv, _⟩
  · cases h
  · simp only [Value.slice.injEq, Option.some.injEq, true_and] at hv
    rw [hv.1] at this ⊢
    exact this

theorem blk_cell {w : World} {b : Nat} {c : Array Value} {t : TypeId} (h : w.heap[b]? = some (.cells c t (0, 0))) (i : Nat) {v : Value} (hv : c[i]? = some v) : w.cell? ⟨b, i, none⟩ = some v := by
  simp [World.cell?, h, hv]
theorem blk_frozen {w : World} {b : Nat} {c : Array Value} {t : TypeId} (h : w.heap[b]? = some (.cells c t (0, 0))) (i : Nat) : w.frozen? ⟨b, i, none⟩ = false := by
  simp [World.frozen?, h]
theorem blk_lt {w : World} {b : Nat} {o : Obj} (h : w.heap[b]? = some o) : b < w.heap.size := (Array.getElem?_eq_some_iff.1 h).1
theorem blk_set {w : World} {b : Nat} {c : Array Value} {t : TypeId} (h : w.heap[b]? = some (.cells c t (0, 0))) (i : Nat) (v : Value) : (w.setCell ⟨b, i, none⟩ v).heap[b]? = some (.cells (c.setIfInBounds i v) t (0, 0)) := by
  simp [World.setCell, Array.getElem?_modify, h]
theorem blk_ne {w : World} {b b' : Nat} {c c' : Array Value} {t t' : TypeId} (h : w.heap[b]? = some (.cells c t (0, 0))) (h' : w.heap[b']? = some (.cells c' t' (0, 0))) (ht : t ≠ t') : b ≠ b' := by
  rintro rfl
  rw [h] at h'
  simp only [Option.some.injEq, Obj.cells.injEq] at h'
  exact ht h'.2.1

/-- append, and where its answer lies. -/
theorem run_append_tell {P : Program} (w : World) (base : Nat) (t ty e : TypeId) (i : TypeInfo) (z : Value) (ht : P.underlying t = some (.slice e)) (hi : P.info? e = some i) (hz : i.zero = some z)
    (hzs : z.cells.size = i.size) (hsz : 0 < i.size)
    (v : Value) (n : Nat) (xs : List Value) (hown : w.ownsRow base e i.size v n xs)
    (a : Addr) (m c : Nat) (news : List Value) (hl : news.length = m * i.size) (hnews : ∀ j u, news[j]? = some u → w.cell? (a.add j) = some u) (h1 : ∀ u ∈ news, u.oneCell' = true)
    (h63 : n + m ≤ maxLen) (hbytes : (n + m) * i.bytes ≤ 140737488355328) (hbase : base ≤ w.heap.size) :
    ∃ v' w', (Builtin.append_ #[t, t] ty #[v, .slice (some a) m c]).run P w = .ok v' w' ∧ w'.ownsRow base e i.size v' (n + m) (xs ++ news) ∧ w.grownBy w' v.ownBlock ∧
      (v'.ownBlock = v.ownBlock ∨ v'.ownBlock = some w.heap.size) := by
  obtain ⟨v', w', hr, r1, r2, r3⟩ := run_append_own (P := P) w base t ty e i z i.size i.bytes ht hi hz rfl rfl hzs hsz v n xs hown a m c news hl hnews h1 h63 hbytes hbase
  refine ⟨v', w', hr, r1, r2, ?_⟩
  have h63' : n + m ≤ 9223372036854775807 := by simp only [maxLen] at h63; omega
  rcases hown.2 with ⟨rfl, rfl⟩ | ⟨g, cap, cur, rfl, hbg, hg, hnc, hcm, hcs, htake⟩
  · by_cases hm : m = 0
    · have := r3.2 ⟨rfl, hm⟩
      subst this
      exact .inl rfl
    · have hr' := run_append_nil (P := P) w t ty e i z ht hi hz a m c news hl hnews (by omega) (by omega) (by have hb := hbytes; simp only [Nat.zero_add] at hb; omega)
      rw [hr'] at hr
      cases hr
      exact .inr rfl
  · by_cases hroom : n + m ≤ cap
    · have hfit : n * i.size + news.length ≤ cur.size := by rw [hl, hcs, ← Nat.add_mul]; exact Nat.mul_le_mul_right _ hroom
      have hr' := run_append_room (P := P) w t ty e i ht hi g n cap cur hg a m c news hl hnews h1 hroom hfit
      rw [hr'] at hr
      cases hr
      exact .inl rfl
    · have holds : ∀ j u, xs[j]? = some u → w.cell? ((⟨g, 0, none⟩ : Addr).add j) = some u := hown.cells (g := g) rfl
      have hr' := run_append_grow (P := P) w t ty e i z ht hi hz ⟨g, 0, none⟩ n cap xs hown.1 holds a m c news hl hnews (by omega) (by omega) (growslice_fits (by omega) hbytes)
      rw [hr'] at hr
      cases hr
      exact .inr rfl

section
variable (t e : TypeId) (z : Value) (size bytes : Nat)
theorem wp_append (ht : Tryz.prog.underlying t = some (.slice e)) (hinfo : (Tryz.prog.info? e).map (fun i => (i.zero, i.size, i.bytes)) = some (some z, size, bytes)) (hzs : z.cells.size = size) (hsz : 0 < size) (hby : 0 < bytes)
    (w : World) {ops : Array Oper} {rest : List Oper} {o : Oper} {a : Act} {Q : Exit → Act → World → Prop} (hgd : o.guard = none) (s x : Operand)
    (ho : o.op = .call { callee := .builtin .append, args := #[s, x], argTypes := #[t, t] })
    (base : Nat) (v : Value) (n : Nat) (xs : List Value) (hs : a.eval s = v) (hown : w.ownsRow base e size v n xs)
    (ad : Addr) (m c : Nat) (news : List Value) (hx : a.eval x = .slice (some ad) m c) (hl : news.length = m * size) (hnews : ∀ j u, news[j]? = some u → w.cell? (ad.add j) = some u) (h1 : ∀ u ∈ news, u.oneCell' = true)
    (hbytes : (n + m) * bytes ≤ 140737488355328) (hbase : base ≤ w.heap.size)
    (h : ∀ v' w', w'.ownsRow base e size v' (n + m) (xs ++ news) → w.grownBy w' v.ownBlock → (v'.ownBlock = v.ownBlock ∨ v'.ownBlock = some w.heap.size) → wpList Tryz.prog ops Q rest (a.put o.dst v') w') : wpList Tryz.prog ops Q (o :: rest) a w := by
  obtain ⟨ib, hib, hz, hsize, hbyt⟩ := info_parts hinfo
  subst hsize
  subst hbyt
  have h63 : n + m ≤ maxLen := by
    have := Nat.le_mul_of_pos_right (n + m) hby
    simp only [maxLen]; omega
  obtain ⟨v', w', hr, h2, h3, h4⟩ := run_append_tell (P := Tryz.prog) w base t o.type e ib z ht hib hz hzs hsz v n xs hown ad m c news hl hnews h1 h63 hbytes hbase
  refine wpList_plain hgd fun _ hK => ?_
  unfold Oper.wp execOp
  simp only [ho, resolve, invoke, builtin, Sem.run_bind, Sem.run_pure, Result.andThen_ok, List.map_toArray, List.map_cons, List.map_nil, hs, hx, hr]
  exact hK _ _ (h v' w' h2 h3 h4)
end

/-- The document's volume lies in memory. -/
structure RRep (w : World) (a : Nat) (R : Vol) (vb vs : Value) (sv : List SV) : Prop where
  vol : w.heap[a]? = some (.cells #[.int .i64 (R.pool : Int), vb, vs, .int .i64 (R.last : Int)] 141 (0, 0))
  blocks : w.ownsRow 0 173 2 vb R.blocks.length (rcells R.blocks)
  snaps : w.ownsRow 0 143 2 vs sv.length (scells sv)
  out : R.snaps = sv.map SV.out
  each : ∀ t ∈ sv, w.ownsRow 0 173 2 t.2.1 t.2.2.length (rcells t.2.2)

section
variable {w : World} {a : Nat} {R : Vol} {vb vs : Value} {sv : List SV}
theorem RRep.c0 (h : RRep w a R vb vs sv) : w.cell? ⟨a, 0, none⟩ = some (.int .i64 (R.pool : Int)) := blk_cell h.vol 0 rfl
theorem RRep.c1 (h : RRep w a R vb vs sv) : w.cell? ⟨a, 1, none⟩ = some vb := blk_cell h.vol 1 rfl
theorem RRep.c2 (h : RRep w a R vb vs sv) : w.cell? ⟨a, 2, none⟩ = some vs := blk_cell h.vol 2 rfl
theorem RRep.c3 (h : RRep w a R vb vs sv) : w.cell? ⟨a, 3, none⟩ = some (.int .i64 (R.last : Int)) := blk_cell h.vol 3 rfl
theorem RRep.lt (h : RRep w a R vb vs sv) : a < w.heap.size := blk_lt h.vol
theorem RRep.fz (h : RRep w a R vb vs sv) (i : Nat) : w.frozen? ⟨a, i, none⟩ = false := blk_frozen h.vol i
end

theorem Kept.of_drew {S : Nat → Prop} {w w' : World} (h : Kept S w.drew w') : Kept S w w' := ⟨h.os, h.tape, h.output, h.size, h.block⟩
theorem owns_drew {w : World} {base e size : Nat} {v : Value} {n : Nat} {xs : List Value} (h : w.ownsRow base e size v n xs) : w.drew.ownsRow base e size v n xs := h
theorem RRep.drew {w : World} {a : Nat} {R : Vol} {vb vs : Value} {sv : List SV} (h : RRep w a R vb vs sv) : RRep w.drew a R vb vs sv := ⟨h.vol, h.blocks, h.snaps, h.out, h.each⟩
/-- It stays where it was, if its two blocks that may turn, and no block of its rows, was written. -/
theorem RRep.kept {S : Nat → Prop} {w w' : World} {a : Nat} {R : Vol} {vb vs : Value} {sv : List SV} (h : RRep w a R vb vs sv) (hk : Kept S w w') (ha : ¬ S a) (hs : ∀ g, vs.ownBlock = some g → ¬ S g)
    (hrow : ∀ g cur, w.heap[g]? = some (.cells cur 173 (0, 0)) → ¬ S g) : RRep w' a R vb vs sv :=
  ⟨hk.get h.vol ha, owns_kept h.blocks hk (fun g hg => by obtain ⟨cur, hc⟩ := owns_tag h.blocks hg; exact hrow g cur hc), owns_kept h.snaps hk hs, h.out,
   fun t ht => owns_kept (h.each t ht) hk (fun g hg => by obtain ⟨cur, hc⟩ := owns_tag (h.each t ht) hg; exact hrow g cur hc)⟩

/-- A slice that is not nil, its parts, and the facts that a walk wants. -/
theorem owns_parts {w : World} {base e size : Nat} {v : Value} {n : Nat} {xs : List Value} (h : w.ownsRow base e size v n xs) (hn : 0 < n) : ∃ g cap, v = .slice (some ⟨g, 0, none⟩) n cap ∧ base ≤ g ∧ g < w.heap.size ∧ n ≤ cap ∧ cap ≤ 9223372036854775807 := by
  rcases h.2 with ⟨rfl, rfl⟩ | ⟨g, cap, cur, rfl, hb, hg, h1, h2, _⟩
  · omega
  · exact ⟨g, cap, rfl, hb, blk_lt hg, h1, by simp only [maxLen] at h2; omega⟩
theorem owns_mono_base {w : World} {base base' e size : Nat} {v : Value} {n : Nat} {xs : List Value} (h : w.ownsRow base e size v n xs) (hb : base' ≤ base) : w.ownsRow base' e size v n xs :=
  owns_lift (owns_weaken h) (fun _ hg => Nat.le_trans hb (owns_above h hg))

/-- What holds of a volume at all times. -/
structure Good (R : Vol) : Prop where
  pool : R.pool ≤ 40
  some : 1 ≤ R.blocks.length
  few : R.blocks.length ≤ 16
  snaps : R.snaps.length ≤ 6
  lens : ∀ t ∈ R.snaps, t.2.length = R.blocks.length
  ids : ∀ x ∈ R.blocks, x.2 ≤ R.last
  sids : ∀ t ∈ R.snaps, ∀ x ∈ t.2, x.2 ≤ R.last
  names : ∀ t ∈ R.snaps, 1 ≤ t.1.size ∧ t.1.size ≤ 4
  texts : ∀ x ∈ R.blocks, x.1.size ≤ 6
  stexts : ∀ t ∈ R.snaps, ∀ x ∈ t.2, x.1.size ≤ 6
  fits : usedN (R.blocks.map (·.2) ++ R.snaps.flatMap (fun t => t.2.map (·.2))) ≤ R.pool

theorem sids_out (sv : List SV) : sids sv = (sv.map SV.out).flatMap (fun t => t.2.map (·.2)) := by
  simp [sids, List.flatMap_map, SV.out]

def readB (l : List Blk) (block : Int) : ByteArray × Int :=
  if block < 0 ∨ (l.length : Int) ≤ block then (⟨#[]⟩, 1) else ((l[block.toNat]?.getD (⟨#[]⟩, 0)).1, 0)
def readF (R : Vol) (name : ByteArray) (block : Int) : ByteArray × Int :=
  if name = ⟨#[]⟩ then readB R.blocks block
  else if nameB name = false then (⟨#[]⟩, 3)
  else if findF R.snaps name < 0 then (⟨#[]⟩, 4)
  else readB (R.snaps[(findF R.snaps name).toNat]?.getD (⟨#[]⟩, [])).2 block

/-- May a snapshot of this name be made? -/
def freshF (R : Vol) (name : ByteArray) : Int :=
  if 0 ≤ findF R.snaps name then 5 else if 6 ≤ R.snaps.length then 6 else 0
def snapF (R : Vol) (name : ByteArray) : Vol × Int :=
  if nameB name = false then (R, 3)
  else if freshF R name ≠ 0 then (R, freshF R name)
  else ({ R with snaps := R.snaps ++ [(name, R.blocks)] }, 0)
def dropF (R : Vol) (name : ByteArray) : Vol × Int :=
  if nameB name = false then (R, 3)
  else if findF R.snaps name < 0 then (R, 4)
  else ({ R with snaps := R.snaps.eraseIdx (findF R.snaps name).toNat }, 0)
/-- The cells in use, with some other blocks. -/
def usedF (R : Vol) (bs : List Blk) : Nat := usedN (bs.map (·.2) ++ R.snaps.flatMap (fun t => t.2.map (·.2)))
def putF (R : Vol) (block : Nat) (text : ByteArray) : List Blk := R.blocks.set block (text, if text = ⟨#[]⟩ then 0 else R.last + 1)
def writeF (R : Vol) (block : Int) (text : ByteArray) : Vol × Int :=
  if block < 0 ∨ (R.blocks.length : Int) ≤ block then (R, 1)
  else if 6 < text.size then (R, 2)
  else if text = (R.blocks[block.toNat]?.getD (⟨#[]⟩, 0)).1 then (R, 0)
  else if R.pool < usedF R (putF R block.toNat text) then (R, 11)
  else ({ R with blocks := putF R block.toNat text, last := R.last + 1 }, 0)
end Go.Proofs.YtdnjfjdhkmngjaaGreatDoor
