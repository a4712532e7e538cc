import Derived.Test.YtdnjfjdhkmngjaaGreatDoorYB
namespace Go.Proofs.YtdnjfjdhkmngjaaGreatDoor
open Go.RowKit

/-- One sender gives bytes. -/
theorem nexted_any (W0 w : World) (bw L : Nat) (vl vnm : Value) (ps : List PS) (ns : List Value) {S : Snd} (hW : Wis W0 w bw S L vl vnm ps ns) (hN : S.l.length ≤ 1759218604400) (o : OpV) (ho : o.Ok) :
    Calls Tryz.prog 41 #[.pointer (some ⟨bw, 0, none⟩), .agg o.cells] w fun e w' => e = .returned (.bool true) ∧ ∃ S', Wis W0 w' bw S' L vl vnm ps ns ∧ S'.l.length = S.l.length := by
  by_cases h0 : S.l.length = 0
  · refine (nexted_none W0 w bw L vl vnm ps ns hW o h0).mono ?_
    rintro e w' ⟨rfl, hk⟩
    exact ⟨rfl, S, hW.keptN hk, rfl⟩
  obtain ⟨la, lcap, hvl, _, _, hcs⟩ := owns_open (owns_weaken hW.snd.row)
  obtain ⟨g, rfl, hglt, hc⟩ := hcs (by omega)
  have hc1 : w.cell? ⟨bw, 1, none⟩ = some (.slice (some ⟨g, 0, none⟩) S.l.length lcap) := by rw [← hvl]; exact blk_cell hW.world 1 rfl
  have hpk := pickF_lt o.on (S.l.length : Int) (by omega)
  obtain ⟨q, hq⟩ := Int.eq_ofNat_of_zero_le hpk.1
  have hql : q < S.l.length := by omega
  have hxq : S.l[q]? = some S.l[q] := by simp
  have hsg := sndcells_get S.l q _ hxq
  have he := hW.snd.each S.l[q] (by simp)
  have hg : S.v.ownBlock = some g := by rw [hvl]; rfl
  have hrow := hW.snd.row
  obtain ⟨curg, hcg⟩ := owns_tag (owns_weaken hrow) hg
  have hlo := owns_above hrow hg
  have hxg : S.l[q].x ≠ g := blk_ne he.2.1 hcg (by decide)
  refine (nexted_go w bw g S.l.length lcap q S.l[q].x o.kind o.on o.a o.b o.s o.t o.u S.l[q].left hc1 ⟨curg, hcg⟩ ⟨_, hW.world⟩ (hc _ _ hsg.1) (hc _ _ hsg.2.1) he.2.1 he.2.2.1 hql ?_).mono ?_
  · intro W
    have := pick_any o.on S.l.length W ho.on1 ho.on2 (by omega) (by omega)
    rw [hq] at this
    exact this
  rintro e w' ⟨rfl, hk, hx', hg'⟩
  obtain ⟨left', hl'⟩ : ∃ l', l' = S.l[q].left.extract (nextN o.a S.l[q].left.size) S.l[q].left.size := ⟨_, rfl⟩
  rw [← hl'] at hx' hg'
  have hlsz : left'.size ≤ 4096 := by
    have := he.2.2.1
    rw [hl', ByteArray.size_extract]; omega
  have hrow' : w'.ownsRow W0.heap.size 135 3 S.v S.l.length ((sndcells S.l).set (q * 3 + 1) (.string left')) := by
    rw [hvl] at hrow ⊢
    have hset := owns_set (owns_weaken hrow) (q * 3 + 1) (.string left')
    have hK : Kept (fun k => k ≠ g) (w.setCell ⟨g, q * 3 + 1, none⟩ (.string left')) w' :=
      ⟨hk.os, hk.tape, hk.output, by have := hk.size; simpa [World.setCell] using this, fun k hk1 hk2 => by
        have : k = g := by simpa using hk2
        subst this
        rw [hg' curg hcg]
        exact (blk_set hcg (q * 3 + 1) (.string left')).symm⟩
    exact owns_lift (owns_kept hset hK (fun g' hg'' h => h (by simpa [Value.ownBlock] using hg''.symm))) (fun g' hg'' => owns_above hrow hg'')
  refine ⟨rfl, ⟨S.v, S.l.set q ⟨S.l[q].x, left', S.l[q].all⟩⟩, hW.sent (S := S) ?_ ?_ ⟨?_, ?_, ?_⟩, by simp⟩
  · refine hk.mono (fun k _ hk' => ?_)
    rcases hk' with rfl | rfl
    · exact .inr ⟨he.1, _, .inr he.2.1⟩
    · exact .inr ⟨hlo, _, .inl hcg⟩
  · refine hk.get hW.world ?_
    rintro (h | h)
    · exact blk_ne hW.world he.2.1 (by decide) h
    · exact blk_ne hW.world hcg (by decide) h
  · simp only [List.length_set]
    rw [sndcells_set S.l q _ hxq]
    exact hrow'
  · intro s hs
    simp only at hs
    obtain ⟨j, hj, hjs⟩ := List.getElem_of_mem hs
    by_cases hqj : q = j
    · subst hqj
      simp at hjs
      rw [← hjs]
      exact ⟨he.1, hx', hlsz, he.2.2.2⟩
    · rw [List.getElem_set_ne hqj] at hjs
      have hj' : j < S.l.length := by simpa using hj
      have hsm : s ∈ S.l := by rw [← hjs]; exact List.getElem_mem _
      have hse := hW.snd.each s hsm
      refine ⟨hse.1, hk.get hse.2.1 ?_, hse.2.2⟩
      rintro (h | h)
      · exact hW.snd.apart j q s S.l[q] (fun e => hqj e.symm) (by rw [← hjs]; simp) hxq h
      · exact blk_ne hse.2.1 hcg (by decide) h
  · intro i j s t hij hi hj
    simp only [List.getElem?_set] at hi hj
    have key : ∀ i s, (if q = i then if q < S.l.length then some (⟨S.l[q].x, left', S.l[q].all⟩ : SS) else none else S.l[i]?) = some s → ∃ s0, S.l[i]? = some s0 ∧ s0.x = s.x := by
      intro i s h
      split at h
      · rename_i hqi
        subst hqi
        simp at h
        exact ⟨S.l[q], hxq, by rw [← h]⟩
      · exact ⟨s, h, rfl⟩
    obtain ⟨s0, h1, e1⟩ := key i s hi
    obtain ⟨t0, h2, e2⟩ := key j t hj
    rw [← e1, ← e2]
    exact hW.snd.apart i j s0 t0 hij h1 h2
end Go.Proofs.YtdnjfjdhkmngjaaGreatDoor
