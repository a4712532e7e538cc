import Derived.Test.YtdnjfjdhkmngjaaGreatDoorM7
import Derived.Test.YtdnjfjdhkmngjaaGreatDoorK
import Derived.Test.YtdnjfjdhkmngjaaGreatDoorN
namespace Go.Proofs.YtdnjfjdhkmngjaaGreatDoor
open Go.RowKit

theorem und_pairs : Tryz.prog.underlying 50 = some (.slice 96) := by kernel_rfl
theorem info_pair : (Tryz.prog.info? 96).map (fun i => (i.zero, i.size, i.bytes)) = some (some (.agg #[.pointer none, .pointer none]), 2, 16) := by kernel_rfl
theorem one_pair (a b : Option Addr) : ∀ u ∈ [Value.pointer a, .pointer b], u.oneCell' = true := by
  intro u hu; simp at hu; rcases hu with rfl | rfl <;> rfl

/-- One volume more. -/
theorem Wis.begins {W0 wb w' : World} {bw L : Nat} {vl vl' vnm : Value} {ps : List PS} {ns : List Value} {S : Snd} (h : Wis W0 wb bw S L vl vnm ps ns) (hk : Kept (fun k => k = bw ∨ vl.ownBlock = some k) wb w')
    (hw : w'.heap[bw]? = some (.cells #[vl', S.v, vnm] 54 (0, 0))) (p : PS) (hpr : w'.ownsRow W0.heap.size 96 2 vl' (ps.length + 1) (prcells ps ++ [.pointer (some ⟨p.b, 0, none⟩), .pointer (some ⟨p.a, 0, none⟩)]))
    (hp : p.Ok w' W0.heap.size L) (hb : wb.heap.size ≤ p.b) (ha : wb.heap.size ≤ p.a) (h1 : p.pvs.ownBlock = none) (h2 : p.rvs.ownBlock = none) :
    Wis W0 w' bw S L vl' vnm (ps ++ [p]) ns := by
  have htag : ∀ {t' : TypeId}, t' ≠ 54 → t' ≠ 96 → ∀ g cur, wb.heap[g]? = some (.cells cur t' (0, 0)) → ¬ (g = bw ∨ vl.ownBlock = some g) := by
    rintro t' h1 h2 g cur hg (rfl | hv)
    · exact blk_ne hg h.world h1 rfl
    · obtain ⟨cur', hc⟩ := owns_tag (owns_weaken h.pairs) hv
      exact blk_ne hg hc h2 rfl
  refine ⟨h.kept.trans' hk (fun k hk1 hk2 => ?_), h.glob, h.hbw, hw, ?_, ?_, ?_, ?_, h.four, ?_, h.snd.kept hk (htag (by decide) (by decide)) (htag (by decide) (by decide))⟩
  · rcases hk2 with rfl | hv
    · have := h.hbw; omega
    · have := owns_above h.pairs hv; omega
  · have : prcells (ps ++ [p]) = prcells ps ++ [.pointer (some ⟨p.b, 0, none⟩), .pointer (some ⟨p.a, 0, none⟩)] := by simp [prcells]
    rw [this, List.length_append]
    exact hpr
  · intro q hq
    rw [List.mem_append] at hq
    rcases hq with hq | hq
    · have hok := h.ok q hq
      exact ⟨hok.prog.kept hk (htag (by decide) (by decide) _ _ hok.prog.vol) (fun g hg => by obtain ⟨cur, hc⟩ := owns_tag hok.prog.snaps hg; exact htag (by decide) (by decide) g cur hc) (htag (by decide) (by decide)) (htag (by decide) (by decide)),
        hok.ref.kept hk (htag (by decide) (by decide) _ _ hok.ref.vol) (fun g hg => by obtain ⟨cur, hc⟩ := owns_tag hok.ref.snaps hg; exact htag (by decide) (by decide) g cur hc) (htag (by decide) (by decide)), hok.good, hok.last, hok.lo1, hok.lo2, hok.lo3, hok.lo4⟩
    · simp at hq; subst hq; exact hp
  · have hold : ∀ q, q ∈ ps → Apart q p ∧ Apart p q := by
      intro q hq
      have hok := h.ok q hq
      have e1 := blk_lt hok.prog.vol
      have e2 := blk_lt hok.ref.vol
      refine ⟨⟨by omega, by omega, fun g _ => by rw [h1]; simp, fun g _ => by rw [h2]; simp⟩, ⟨by omega, by omega, fun g hg => (by rw [h1] at hg; cases hg), fun g hg => (by rw [h2] at hg; cases hg)⟩⟩
    intro i j p1 q1 hne hi hj
    by_cases ei : i < ps.length
    · rw [List.getElem?_append_left ei] at hi
      by_cases ej : j < ps.length
      · rw [List.getElem?_append_left ej] at hj
        exact h.apart i j p1 q1 hne hi hj
      · rw [List.getElem?_append_right (by omega)] at hj
        have hj0 : j - ps.length = 0 := by have := (List.getElem?_eq_some_iff.1 hj).1; simp at this; omega
        rw [hj0] at hj
        simp at hj; subst hj
        exact (hold p1 (List.mem_of_getElem? hi)).1
    · rw [List.getElem?_append_right (by omega)] at hi
      have hi0 : i - ps.length = 0 := by have := (List.getElem?_eq_some_iff.1 hi).1; simp at this; omega
      rw [hi0] at hi
      simp at hi; subst hi
      by_cases ej : j < ps.length
      · rw [List.getElem?_append_left ej] at hj
        exact (hold q1 (List.mem_of_getElem? hj)).2
      · rw [List.getElem?_append_right (by omega)] at hj
        have hj0 := (List.getElem?_eq_some_iff.1 hj).1
        simp at hj0
        omega
  · exact owns_keptB h.names hk (fun g hg => by obtain ⟨cur, hc⟩ := owns_tag (owns_weaken h.names) hg; exact htag (by decide) (by decide) g cur hc)
  · intro k v hv
    obtain ⟨n, hn⟩ := h.marks k v hv
    exact ⟨n, owns_kept hn hk (fun g hg => by obtain ⟨cur, hc⟩ := owns_tag hn hg; exact htag (by decide) (by decide) g cur hc)⟩

set_option maxRecDepth 100000 in
set_option maxHeartbeats 2000000 in
theorem begins_any (W0 w : World) (bw L : Nat) (vl vnm : Value) (ps : List PS) (ns : List Value) {S : Snd} (hW : Wis W0 w bw S L vl vnm ps ns) (hN : ps.length ≤ 1759218604400) (blocks pool : Int) :
    Calls Tryz.prog 40 #[.pointer (some ⟨bw, 0, none⟩), .int .i64 blocks, .int .i64 pool] w fun e w' => e = .returned (.bool true) ∧ ∃ vl' ps', Wis W0 w' bw S L vl' vnm ps' ns ∧ ps.length ≤ ps'.length ∧ ps'.length ≤ ps.length + 1 ∧ ((1 ≤ blocks ∧ blocks ≤ 16 ∧ 1 ≤ pool ∧ pool ≤ 40) → ps'.length = ps.length + 1) := by
  have HW : Hid (Wis W0 w bw S L vl vnm ps ns) := hW
  have hlt := blk_lt hW.world
  by_cases hok : 1 ≤ blocks ∧ blocks ≤ 16 ∧ 1 ≤ pool ∧ pool ≤ 40
  · obtain ⟨h1, h2, h3, h4⟩ := hok
    obtain ⟨nb, rfl⟩ := Int.eq_ofNat_of_zero_le (show 0 ≤ blocks by omega)
    obtain ⟨np, rfl⟩ := Int.eq_ofNat_of_zero_le (show 0 ≤ pool by omega)
    clear hW
    go_enter Tryz.func40, Tryz.ntmps40
    go_wp2_with fail
    refine (pNew_ok nb np w id (by omega) (by omega) (by omega) (by omega)).mono ?_
    rintro e w1 ⟨b, rfl, vn, hb, hP, hk1⟩
    have HP : Hid (PRep w1 b id (newVol nb np) vn (.slice none 0 0) []) := hP
    clear hP
    go_wp2_with fail
    refine (rNew_ok nb np w1 (by omega) (by omega) (by omega) (by omega)).mono ?_
    rintro e w2 ⟨a, vb, rfl, ha, hR, hk2⟩
    have HR : Hid (RRep w2 a (newVol nb np) vb (.slice none 0 0) []) := hR
    have hkp2 := hk1.trans hk2
    have HW2 : Hid (Wis W0 w2 bw S L vl vnm ps ns) := HW.out.keptN hkp2
    clear hR
    go_wp2_with fail
    refine (says_any .nilIface 0 w2 HW2.out.globals (ErrRep.nil _) (by decide) (by decide)).mono ?_
    rintro e w3 ⟨rfl, hk3⟩
    have HW3 : Hid (Wis W0 w3 bw S L vl vnm ps ns) := HW2.out.keptN hk3
    have HP3 : Hid (PRep w3 b id (newVol nb np) vn (.slice none 0 0) []) := HP.out.keptN (hk2.trans hk3)
    have HR3 : Hid (RRep w3 a (newVol nb np) vb (.slice none 0 0) []) := HR.out.kept hk3 (fun h => h) (fun _ _ h => h) (fun _ _ _ h => h)
    have hc0 : w3.cell? ⟨bw, 0, none⟩ = some vl := blk_cell HW3.out.world 0 rfl
    have hlt3 := blk_lt HW3.out.world
    have hsz := HW3.out.kept.size
    obtain ⟨la, lcap, hvl, _, _, _⟩ := owns_open (owns_weaken HW.out.pairs)
    subst hvl
    go_wp2_with (at_builtin; refine wp_append _ _ _ 2 16 und_pairs info_pair rfl (by decide) (by decide) _ rfl _ _ rfl W0.heap.size (.slice la ps.length lcap) ps.length (prcells ps) rfl (HW3.out.pairs.alloc _) ⟨w3.heap.size, 0, none⟩ 1 1 [.pointer (some ⟨b, 0, none⟩), .pointer (some ⟨a, 0, none⟩)] rfl rfl (new_two_at _ _ _ _) (one_pair _ _) ?_ ?_ ?_)
    · omega
    · simp; omega
    intro v4 w4 ho4 hg4 hat4
    obtain ⟨g4, c4, hv4, _, _, _, _⟩ := owns_parts ho4 (by omega)
    subst hv4
    have hk34 : Kept (fun k => (Value.slice la ps.length lcap).ownBlock = some k) w3 w4 := ((Kept.refl _ w3).alloc _).grown hg4 (fun k hk => .inl hk)
    have hnt : ∀ {t' : TypeId}, t' ≠ 96 → ∀ g cur, w3.heap[g]? = some (.cells cur t' (0, 0)) → ¬ (Value.slice la ps.length lcap).ownBlock = some g := by
      intro t' h1 g cur hg hv
      obtain ⟨cur', hc⟩ := owns_tag (owns_weaken HW3.out.pairs) hv
      exact blk_ne hg hc h1 rfl
    have hworld4 := hk34.get HW3.out.world (hnt (by decide) _ _ HW3.out.world)
    have hc04 : w4.cell? ⟨bw, 0, none⟩ = some (.slice la ps.length lcap) := blk_cell hworld4 0 rfl
    have hf04 := blk_frozen hworld4 0
    have hset := (Kept.refl (fun k => k = bw) w4).set_at 0 (.slice (some ⟨g4, 0, none⟩) (ps.length + 1) c4)
    have hk35 : Kept (fun k => k = bw ∨ (Value.slice la ps.length lcap).ownBlock = some k) w3 (w4.setCell ⟨bw, 0, none⟩ (.slice (some ⟨g4, 0, none⟩) (ps.length + 1) c4)) :=
      (hk34.mono (fun _ _ h => .inr h)).setCell (p := ⟨bw, 0, none⟩) (.inl (.inl rfl)) _
    have hnt5 : ∀ {t' : TypeId}, t' ≠ 96 → t' ≠ 54 → ∀ g cur, w3.heap[g]? = some (.cells cur t' (0, 0)) → ¬ (g = bw ∨ (Value.slice la ps.length lcap).ownBlock = some g) := by
      rintro t' h1 h2 g cur hg (rfl | hv)
      · exact blk_ne hg HW3.out.world h2 rfl
      · exact hnt h1 g cur hg hv
    have hw0 := HW.out.kept.size
    have HF : Hid (Wis W0 (w4.setCell ⟨bw, 0, none⟩ (.slice (some ⟨g4, 0, none⟩) (ps.length + 1) c4)) bw S L (.slice (some ⟨g4, 0, none⟩) (ps.length + 1) c4) vnm (ps ++ [⟨b, a, id, newVol nb np, vn, .slice none 0 0, [], vb, .slice none 0 0, []⟩]) ns) := by
      have hkw : Kept (fun k => k = bw ∨ (Value.slice la ps.length lcap).ownBlock = some k) w (w4.setCell ⟨bw, 0, none⟩ (.slice (some ⟨g4, 0, none⟩) (ps.length + 1) c4)) :=
        ((hkp2.trans hk3).mono (fun _ _ h => h.elim)).trans hk35
      refine HW.out.begins hkw ?_ ⟨b, a, id, newVol nb np, vn, .slice none 0 0, [], vb, .slice none 0 0, []⟩ ?_ ?_ hb ?_ rfl rfl
      · have := blk_set hworld4 0 (.slice (some ⟨g4, 0, none⟩) (ps.length + 1) c4)
        simpa using this
      · exact owns_keptB ho4 hset (fun g hg e => by obtain ⟨cur, hc⟩ := owns_tag (owns_weaken ho4) hg; exact blk_ne hc hworld4 (by decide) e)
      · refine ⟨HP3.out.kept hk35 (hnt5 (by decide) (by decide) _ _ HP3.out.vol) (fun g hg => by simp [Value.ownBlock] at hg) (hnt5 (by decide) (by decide)) (hnt5 (by decide) (by decide)),
          HR3.out.kept hk35 (hnt5 (by decide) (by decide) _ _ HR3.out.vol) (fun g hg => by simp [Value.ownBlock] at hg) (hnt5 (by decide) (by decide)), good_new (by omega) (by omega) (by omega), Nat.zero_le _, ?_, ?_, fun g hg => by simp [Value.ownBlock] at hg, fun g hg => by simp [Value.ownBlock] at hg⟩
        · show W0.heap.size ≤ b; omega
        · have := hk1.size; show W0.heap.size ≤ a; omega
      · have := hk1.size; show w.heap.size ≤ a; omega
    clear ho4 hg4 hat4 hk34 hnt hworld4 hset hk35 hnt5
    go_wp2
    go_ret
    exact ⟨rfl, _, _, HF.out, by simp, by simp, fun _ => by simp⟩
  · have Hno : Hid (¬ (1 ≤ blocks ∧ blocks ≤ 16 ∧ 1 ≤ pool ∧ pool ≤ 40)) := hok
    clear hW hok
    go_enter Tryz.func40, Tryz.ntmps40
    go_wp2_with fail
    refine (pNew_bad blocks pool w Hno.out).mono ?_
    rintro e w1 ⟨err, rfl, he, hk1⟩
    have He : Hid (ErrRep w1 err 1) := he
    clear he
    go_wp2_with fail
    refine (rNew_bad blocks pool w1 Hno.out).mono ?_
    rintro e w2 ⟨rfl, rfl⟩
    have HW2 : Hid (Wis W0 w2 bw S L vl vnm ps ns) := HW.out.keptN hk1
    go_wp2_with fail
    refine (says_any err 1 w2 HW2.out.globals He.out (by decide) (by decide)).mono ?_
    rintro e w3 ⟨rfl, hk3⟩
    go_wp2
    go_ret
    exact ⟨rfl, _, _, HW2.out.keptN hk3, Nat.le_refl _, by omega, fun h => absurd h Hno.out⟩
end Go.Proofs.YtdnjfjdhkmngjaaGreatDoor
