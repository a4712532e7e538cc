import Derived.Test.YtdnjfjdhkmngjaaGreatDoorC
import Derived.Test.YtdnjfjdhkmngjaaGreatDoorM3
namespace Go.Proofs.YtdnjfjdhkmngjaaGreatDoor
open Go.RowKit

theorem scells_one {w : World} (sv : List SV) (he : ∀ t ∈ sv, w.ownsRow 0 173 2 t.2.1 t.2.2.length (rcells t.2.2)) : ∀ u ∈ scells sv, u.oneCell' = true := by
  intro u hu
  simp only [scells, List.mem_flatMap] at hu
  obtain ⟨b, hb, hu⟩ := hu
  simp at hu
  rcases hu with rfl | rfl
  · rfl
  · exact owns_one (he b hb)
theorem pairs_take {α : Type} (f g : α → Value) (l : List α) (k : Nat) : ((l.take k).flatMap fun t => [f t, g t]) = (l.flatMap fun t => [f t, g t]).take (k * 2) := by
  induction l generalizing k with
  | nil => simp
  | cons y l ih =>
    cases k with
    | zero => simp
    | succ k => rw [show (k + 1) * 2 = (k * 2) + 2 from by omega]; simp [ih k]
theorem pairs_drop {α : Type} (f g : α → Value) (l : List α) (k : Nat) : ((l.drop k).flatMap fun t => [f t, g t]) = (l.flatMap fun t => [f t, g t]).drop (k * 2) := by
  induction l generalizing k with
  | nil => simp
  | cons y l ih =>
    cases k with
    | zero => simp
    | succ k => rw [show (k + 1) * 2 = (k * 2) + 2 from by omega]; simp [ih k]
theorem scells_take (sv : List SV) (k : Nat) : scells (sv.take k) = (scells sv).take (k * 2) := pairs_take _ _ sv k
theorem scells_drop (sv : List SV) (k : Nat) : scells (sv.drop k) = (scells sv).drop (k * 2) := pairs_drop _ _ sv k
theorem scells_append (a b : List SV) : scells (a ++ b) = scells a ++ scells b := by simp [scells]

/-- The volume's snapshots are put in. -/
theorem rrep_snaps' {w : World} {a : Nat} {R : Vol} {vb vs v : Value} {sv' : List SV} {n : Nat} (hvol : w.heap[a]? = some (.cells #[.int .i64 (R.pool : Int), vb, vs, .int .i64 (R.last : Int)] 141 (0, 0)))
    (hblocks : w.ownsRow 0 173 2 vb R.blocks.length (rcells R.blocks)) (hrow : w.ownsRow 0 143 2 v n (scells sv')) (hn : n = sv'.length)
    (he : ∀ t ∈ sv', w.ownsRow 0 173 2 t.2.1 t.2.2.length (rcells t.2.2)) :
    RRep (w.setCell ⟨a, 2, none⟩ v) a { R with snaps := sv'.map SV.out } vb v sv' := by
  subst hn
  have hk : Kept (fun k => k = a) w (w.setCell ⟨a, 2, none⟩ v) := (Kept.refl _ w).set_at _ _
  have hne : ∀ {e size : Nat} {x : Value} {m : Nat} {xs : List Value}, w.ownsRow 0 e size x m xs → e ≠ 141 → ∀ g, x.ownBlock = some g → ¬ g = a := by
    intro e size x m xs ho he g hg hga
    obtain ⟨cur, hc⟩ := owns_tag ho hg
    exact blk_ne hc hvol he hga
  refine ⟨?_, owns_kept hblocks hk (hne hblocks (by decide)), owns_kept hrow hk (hne hrow (by decide)), rfl, fun t ht => owns_kept (he t ht) hk (hne (he t ht) (by decide))⟩
  have := blk_set hvol 2 v
  simpa using this

/-- Where the row of the snapshots lies behind a call: where it lay, or it is new. -/
def RowAt (w : World) (v v' : Value) : Prop := (v'.ownBlock = v.ownBlock ∨ ∃ g, v'.ownBlock = some g ∧ w.heap.size ≤ g) ∨ v'.ownBlock = none
theorem RowAt.same (w : World) (v : Value) : RowAt w v v := .inl (.inl rfl)

set_option maxHeartbeats 1000000 in
theorem rSnap_any (a : Nat) (name : ByteArray) (w : World) (R : Vol) (vb vs : Value) (sv : List SV) (hR : RRep w a R vb vs sv) (hG : Good R) (hs : name.size ≤ maxLen) :
    Calls Tryz.prog 71 #[.pointer (some ⟨a, 0, none⟩), .string name] w fun e w' => e = .returned (.int .i64 (snapF R name).2) ∧ (∃ vs' sv', RRep w' a (snapF R name).1 vb vs' sv' ∧ RowAt w vs vs') ∧ Kept (fun k => k = a ∨ vs.ownBlock = some k) w w' := by
  have hv1 := hR.c1
  have hv2 := hR.c2
  have HR : Hid (RRep w a R vb vs sv) := hR
  have HG : Hid (Good R) := hG
  have Hn : Hid (Calls Tryz.prog 89 #[.string name] w fun e w' => e = .returned (.bool (nameB name)) ∧ w' = w) := rName_any name w hs
  have Hfr : Hid (Calls Tryz.prog 96 #[.pointer (some ⟨a, 0, none⟩), .string name] w fun e w' => e = .returned (.int .i64 (freshF R name)) ∧ w' = w) := fresh_any a name w R vb vs sv hR
  have hsl : sv.length ≤ 6 := by have := hG.snaps; rw [hR.out] at this; simpa using this
  clear hR hG
  by_cases hnb : nameB name = false
  · have Hf : Hid (snapF R name = (R, 3)) := by show _ = _; rw [snapF, if_pos hnb]
    rw [hnb] at Hn
    clear hnb
    go_enter Tryz.func71, Tryz.ntmps71
    go_wp2_with (go_at_call 89; refine Hn.out.mono ?_; rintro e w' ⟨rfl, rfl⟩)
    go_ret
    rw [Hf.out]
    exact ⟨rfl, ⟨_, _, HR.out, RowAt.same _ _⟩, Kept.refl _ _⟩
  have hnb' : nameB name = true := by simpa using hnb
  rw [hnb'] at Hn
  by_cases hfr : freshF R name ≠ 0
  · have Hf : Hid (snapF R name = (R, freshF R name)) := by show _ = _; rw [snapF, if_neg hnb, if_pos hfr]
    clear hnb hnb'
    have hb : (freshF R name != 0) = true := by simpa using hfr
    generalize freshF R name = fr at Hf Hfr hb
    clear hfr
    go_enter Tryz.func71, Tryz.ntmps71
    go_wp2_with (first | (go_at_call 89; refine Hn.out.mono ?_; rintro e w' ⟨rfl, rfl⟩) | (go_at_call 96; refine Hfr.out.mono ?_; rintro e w' ⟨rfl, rfl⟩))
    go_ret
    rw [Hf.out]
    exact ⟨rfl, ⟨_, _, HR.out, RowAt.same _ _⟩, Kept.refl _ _⟩
  have hfr0 : freshF R name = 0 := by simpa using hfr
  have Hf : Hid (snapF R name = ({ R with snaps := R.snaps ++ [(name, R.blocks)] }, 0)) := by show _ = _; rw [snapF, if_neg hnb, if_neg hfr]
  rw [hfr0] at Hfr
  clear hnb hnb' hfr hfr0
  obtain ⟨ba, bcap, rfl, hbn, hbm, hbc⟩ := owns_open HR.out.blocks
  clear hbc
  go_enter Tryz.func71, Tryz.ntmps71
  go_wp2_with (first | (go_at_call 89; refine Hn.out.mono ?_; rintro e w' ⟨rfl, rfl⟩) | (go_at_call 96; refine Hfr.out.mono ?_; rintro e w' ⟨rfl, rfl⟩))
  refine (copied_any _ _ R.blocks HR.out.blocks HG.out.some HG.out.few).mono ?_
  rintro e w1 ⟨v', rfl, how, hk1⟩
  obtain ⟨g1, cap1, hv', hg1, hg1', hn1, hm1⟩ := owns_parts how HG.out.some
  subst hv'
  have HR1 : Hid (RRep w1 a R _ vs sv) := HR.out.kept hk1 (fun h => h) (fun _ _ h => h) (fun _ _ _ h => h)
  have h12 := HR1.out.c2
  have hlt := HR1.out.lt
  have hlt0 := HR.out.lt
  have hf2 := HR1.out.fz 2
  have How : Hid (w1.ownsRow w'.heap.size 173 2 (.slice (some ⟨g1, 0, none⟩) R.blocks.length cap1) R.blocks.length (rcells R.blocks)) := how
  clear how
  go_wp2_with (at_builtin; refine wp_append _ _ _ 2 40 und_rsnaps info_rsnap rfl (by decide) (by decide) _ rfl _ _ rfl 0 vs sv.length (scells sv) rfl (HR1.out.snaps.alloc _) ⟨w1.heap.size, 0, none⟩ 1 1 [.string name, .slice (some ⟨g1, 0, none⟩) R.blocks.length cap1] rfl rfl (cell_two_new _ _ _ _) ?_ ?_ (Nat.zero_le _) ?_)
  · intro u hu; simp at hu; rcases hu with rfl | rfl
    · rfl
    · exact owns_one How.out
  · omega
  intro v2 w2 ho2 hg2 hat2
  obtain ⟨g2, cap2, hv2', hg2a, hg2b, hn2, hm2⟩ := owns_parts ho2 (by omega)
  subst hv2'
  have hkA : Kept (fun k => vs.ownBlock = some k) w1 w2 := ((Kept.refl _ w1).alloc _).grown hg2 (fun k hk => .inl hk)
  have ha2 : ¬ vs.ownBlock = some a := by
    intro h
    obtain ⟨cur, hc⟩ := owns_tag HR1.out.snaps h
    exact blk_ne hc HR1.out.vol (by decide) rfl
  have hr2 : ∀ g cur, w1.heap[g]? = some (.cells cur 173 (0, 0)) → ¬ vs.ownBlock = some g := by
    intro g cur hg h
    obtain ⟨cur', hc⟩ := owns_tag HR1.out.snaps h
    exact blk_ne hg hc (by decide) rfl
  have hvol2 := hkA.get HR1.out.vol ha2
  have hf2' := blk_frozen hvol2 2
  have hc2' : w2.cell? ⟨a, 2, none⟩ = some vs := blk_cell hvol2 2 rfl
  have HR2 : Hid (RRep (w2.setCell ⟨a, 2, none⟩ (.slice (some ⟨g2, 0, none⟩) (sv.length + 1) cap2)) a { R with snaps := R.snaps ++ [(name, R.blocks)] } (.slice ba R.blocks.length bcap) (.slice (some ⟨g2, 0, none⟩) (sv.length + 1) cap2) (sv ++ [(name, (.slice (some ⟨g1, 0, none⟩) R.blocks.length cap1), R.blocks)])) := by
    have hb := owns_kept HR1.out.blocks hkA (fun g hg => by obtain ⟨cur, hc⟩ := owns_tag HR1.out.blocks hg; exact hr2 g cur hc)
    have he : ∀ t ∈ sv ++ [(name, (.slice (some ⟨g1, 0, none⟩) R.blocks.length cap1), R.blocks)], w2.ownsRow 0 173 2 t.2.1 t.2.2.length (rcells t.2.2) := by
      intro t ht
      rw [List.mem_append] at ht
      rcases ht with ht | ht
      · exact owns_kept (HR1.out.each t ht) hkA (fun g hg => by obtain ⟨cur, hc⟩ := owns_tag (HR1.out.each t ht) hg; exact hr2 g cur hc)
      · simp at ht; subst ht
        exact owns_kept (owns_weaken How.out) hkA (fun g hg => by obtain ⟨cur, hc⟩ := owns_tag (owns_weaken How.out) hg; exact hr2 g cur hc)
    have := rrep_snaps' hvol2 hb (v := (.slice (some ⟨g2, 0, none⟩) (sv.length + 1) cap2)) (sv' := sv ++ [(name, (.slice (some ⟨g1, 0, none⟩) R.blocks.length cap1), R.blocks)]) (n := sv.length + 1) (by rw [scells_append]; exact ho2) (by simp) he
    rw [HR.out.out]
    unfold Hid
    simpa [SV.out] using this
  have hK2 : Kept (fun k => k = a ∨ vs.ownBlock = some k) w' (w2.setCell ⟨a, 2, none⟩ (.slice (some ⟨g2, 0, none⟩) (sv.length + 1) cap2)) := by
    refine Kept.setCell (p := ⟨a, 2, none⟩) ?_ (.inl (.inl rfl)) _
    exact (hk1.mono (fun _ _ h => h.elim)).trans' hkA (fun i _ h => .inr h)
  have hRow : RowAt w' vs (.slice (some ⟨g2, 0, none⟩) (sv.length + 1) cap2) := by
    rcases hat2 with h | h
    · exact .inl (.inl h)
    · exact .inl (.inr ⟨_, h, by have := hk1.size; simp; omega⟩)
  have HK2 : Hid (Kept (fun k => k = a ∨ vs.ownBlock = some k) w' (w2.setCell ⟨a, 2, none⟩ (.slice (some ⟨g2, 0, none⟩) (sv.length + 1) cap2))) := hK2
  have HRow : Hid (RowAt w' vs (.slice (some ⟨g2, 0, none⟩) (sv.length + 1) cap2)) := hRow
  clear hK2 hRow ho2 hg2 hat2 hkA hvol2 hr2 hk1 h12 hf2 hv1 hv2
  go_wp2
  go_ret
  rw [Hf.out]
  exact ⟨rfl, ⟨_, _, HR2.out, HRow.out⟩, HK2.out⟩

theorem made_rblocks (n : Nat) : (madeCells (Value.cells (.agg #[.string ⟨#[]⟩, .int .i64 0])) (n * 2)).toList = rcells (List.replicate n (⟨#[]⟩, 0)) := by
  have : ∀ n, (List.range (n * 2)).map (fun i => (#[Value.string ⟨#[]⟩, .int .i64 0] : Array Value)[i % 2]!) = rcells (List.replicate n (⟨#[]⟩, 0)) := by
    intro n
    induction n with
    | zero => rfl
    | succ n ih =>
      rw [show (n + 1) * 2 = n * 2 + 1 + 1 from by omega, List.range_succ, List.range_succ, List.map_append, List.map_append, ih, List.replicate_succ', rcells, rcells, List.flatMap_append]
      have h0 : (n * 2) % 2 = 0 := by omega
      have h1 : (n * 2 + 1) % 2 = 1 := by omega
      simp [h0, h1]
  rw [← this]
  simp [madeCells, Value.cells]
theorem wp_make_rblocks (w : World) {ops : Array Oper} {rest : List Oper} {o : Oper} {a : Act} {Q : Exit → Act → World → Prop}
    (hg : o.guard = none) (l c : Operand) (hop : o.op = Op.makeSlice 138 l c)
    (n : Nat) (hl : a.eval l = .int .i64 n) (hc : a.eval c = .int .i64 n) (b2 : n ≤ 16)
    (hK : ∀ w', w'.ownsRow w.heap.size 173 2 (.slice (some ⟨w.heap.size, 0, none⟩) n n) n (rcells (List.replicate n (⟨#[]⟩, 0))) → Kept nothing w w' → wpList Tryz.prog ops Q rest (a.put o.dst (.slice (some ⟨w.heap.size, 0, none⟩) n n)) w') :
    wpList Tryz.prog ops Q (o :: rest) a w := by
  obtain ⟨ib, hib, hz, hsz, hby⟩ := info_parts info_rblock
  refine wpList_make_full w hg l c _ hop w.heap.size 173 ib _ 2 und_rblocks hib hz hsz .i64 .i64 n n n hl hc rfl rfl (by rw [hby]; omega) (by simp [maxLen]; omega) (Nat.le_refl _) ?_
  intro w' h1 h2
  refine hK w' (by rw [← made_rblocks]; exact h1) ((Kept.refl nothing w).grown h2 (by simp))

/-- A volume as New makes it. -/
def newVol (blocks pool : Nat) : Vol := { pool := pool, blocks := List.replicate blocks (⟨#[]⟩, 0), snaps := [], last := 0 }

set_option maxHeartbeats 1000000 in
theorem rNew_bad (blocks pool : Int) (w : World) (h : ¬ (1 ≤ blocks ∧ blocks ≤ 16 ∧ 1 ≤ pool ∧ pool ≤ 40)) :
    Calls Tryz.prog 64 #[.int .i64 blocks, .int .i64 pool] w fun e w' => e = .returned (.tuple #[.pointer none, .int .i64 1]) ∧ w' = w := by
  by_cases h1 : blocks < 1
  · clear h
    go_enter Tryz.func64, Tryz.ntmps64
    go_wp2
    go_ret2
    exact ⟨rfl, rfl⟩
  by_cases h2 : 16 < blocks
  · clear h
    go_enter Tryz.func64, Tryz.ntmps64
    go_wp2
    go_ret2
    exact ⟨rfl, rfl⟩
  by_cases h3 : pool < 1
  · clear h
    go_enter Tryz.func64, Tryz.ntmps64
    go_wp2
    go_ret2
    exact ⟨rfl, rfl⟩
  have h4 : 40 < pool := by omega
  clear h
  go_enter Tryz.func64, Tryz.ntmps64
  go_wp2
  go_ret2
  exact ⟨rfl, rfl⟩

set_option maxHeartbeats 1000000 in
theorem rNew_ok (blocks pool : Nat) (w : World) (h1 : 1 ≤ blocks) (h2 : blocks ≤ 16) (h3 : 1 ≤ pool) (h4 : pool ≤ 40) :
    Calls Tryz.prog 64 #[.int .i64 blocks, .int .i64 pool] w fun e w' => ∃ a vb, e = .returned (.tuple #[.pointer (some ⟨a, 0, none⟩), .int .i64 0]) ∧ w.heap.size ≤ a ∧ RRep w' a (newVol blocks pool) vb (.slice none 0 0) [] ∧ Kept nothing w w' := by
  go_enter Tryz.func64, Tryz.ntmps64
  go_wp2_with (at_make; refine wp_make_rblocks _ rfl _ _ rfl blocks rfl rfl h2 ?_)
  intro w1 ho1 hk1
  have Ho : Hid (w1.ownsRow w.heap.size 173 2 (.slice (some ⟨w.heap.size, 0, none⟩) blocks blocks) blocks (rcells (List.replicate blocks (⟨#[]⟩, 0)))) := ho1
  clear ho1
  go_wp2
  go_ret2
  refine ⟨w1.heap.size, .slice (some ⟨w.heap.size, 0, none⟩) blocks blocks, rfl, hk1.size, ?_, hk1.alloc _⟩
  refine ⟨?_, ?_, World.ownsRow_nil _ _ _ _, rfl, by simp⟩
  · exact heap_alloc_new w1 _
  · simp only [newVol, List.length_replicate]
    exact (owns_weaken Ho.out).alloc _

theorem eraseIdx_eq {α : Type} (l : List α) (k : Nat) : l.eraseIdx k = l.take k ++ l.drop (k + 1) := List.eraseIdx_eq_take_drop_succ l k

set_option maxHeartbeats 1000000 in
theorem rDrop_any (a : Nat) (name : ByteArray) (w : World) (R : Vol) (vb vs : Value) (sv : List SV) (hR : RRep w a R vb vs sv) (hG : Good R) (hs : name.size ≤ maxLen) :
    Calls Tryz.prog 72 #[.pointer (some ⟨a, 0, none⟩), .string name] w fun e w' => e = .returned (.int .i64 (dropF R name).2) ∧ (∃ vs' sv', RRep w' a (dropF R name).1 vb vs' sv' ∧ RowAt w vs vs') ∧ Kept (fun k => k = a ∨ vs.ownBlock = some k) w w' := by
  have hv1 := hR.c1
  have hv2 := hR.c2
  have HR : Hid (RRep w a R vb vs sv) := hR
  have Hn : Hid (Calls Tryz.prog 89 #[.string name] w fun e w' => e = .returned (.bool (nameB name)) ∧ w' = w) := rName_any name w hs
  have Hcall : Hid (Calls Tryz.prog 90 #[.pointer (some ⟨a, 0, none⟩), .string name] w fun e w' => e = .returned (.int .i64 (findF (sv.map SV.out) name)) ∧ w' = w) := rfind_any a name w _ sv hR.c2 hR.snaps
  have hsl : sv.length ≤ 6 := by have := hG.snaps; rw [hR.out] at this; simpa using this
  clear hR hG
  by_cases hnb : nameB name = false
  · have Hf : Hid (dropF R name = (R, 3)) := by show _ = _; rw [dropF, if_pos hnb]
    rw [hnb] at Hn
    clear hnb
    go_enter Tryz.func72, Tryz.ntmps72
    go_wp2_with (go_at_call 89; refine Hn.out.mono ?_; rintro e w' ⟨rfl, rfl⟩)
    go_ret
    rw [Hf.out]
    exact ⟨rfl, ⟨_, _, HR.out, RowAt.same _ _⟩, Kept.refl _ _⟩
  have hnb' : nameB name = true := by simpa using hnb
  rw [hnb'] at Hn
  have Hd : Hid (dropF R name = if findF (sv.map SV.out) name < 0 then (R, 4) else ({ R with snaps := R.snaps.eraseIdx (findF (sv.map SV.out) name).toNat }, 0)) := by
    show _ = _; rw [dropF, if_neg hnb, ← HR.out.out]
  have hfr := findF_range (sv.map SV.out) name
  clear hnb hnb'
  generalize findF (sv.map SV.out) name = fd at Hd Hcall hfr
  simp only [List.length_map] at hfr
  by_cases hfd : fd < 0
  · have Hf : Hid (dropF R name = (R, 4)) := by rw [Hd.out]; show _ = _; rw [if_pos hfd]
    clear Hd
    go_enter Tryz.func72, Tryz.ntmps72
    go_wp2_with (first | (go_at_call 89; refine Hn.out.mono ?_; rintro e w' ⟨rfl, rfl⟩) | (go_at_call 90; refine Hcall.out.mono ?_; rintro e w' ⟨rfl, rfl⟩))
    go_ret
    rw [Hf.out]
    exact ⟨rfl, ⟨_, _, HR.out, RowAt.same _ _⟩, Kept.refl _ _⟩
  obtain ⟨q, rfl⟩ := Int.eq_ofNat_of_zero_le (show 0 ≤ fd by omega)
  have hq : q < sv.length := by omega
  have Hf : Hid (dropF R name = ({ R with snaps := (sv.take q ++ sv.drop (q + 1)).map SV.out }, 0)) := by
    rw [Hd.out]; show _ = _; rw [if_neg hfd, HR.out.out]
    simp only [Int.toNat_natCast, eraseIdx_eq, List.map_append, List.map_take, List.map_drop]
  clear Hd hfd
  obtain ⟨gs, scap, rfl, _, hgs, hsn, hsm⟩ := owns_parts HR.out.snaps (by omega)
  have hlt0 := HR.out.lt
  go_enter Tryz.func72, Tryz.ntmps72
  go_wp2_with (first | (go_at_call 89; refine Hn.out.mono ?_; rintro e w' ⟨rfl, rfl⟩) | (go_at_call 90; refine Hcall.out.mono ?_; rintro e w' ⟨rfl, rfl⟩) | (at_builtin; refine wp_append _ _ _ 2 40 und_rsnaps info_rsnap rfl (by decide) (by decide) _ rfl _ _ rfl w'.heap.size (.slice none 0 0) 0 [] rfl (World.ownsRow_nil _ _ _ _) ⟨gs, 0, none⟩ q scap (scells (sv.take q)) rfl ?hl ?hn ?ho ?hb (Nat.le_refl _) ?hK))
  case hl => rw [scells_len]; simp; omega
  case hn =>
    intro j u hu
    rw [scells_take, List.getElem?_take] at hu
    split at hu
    · exact owns_cell_at HR.out.snaps hu
    · cases hu
  case ho => exact scells_one _ (fun t ht => HR.out.each t (List.mem_of_mem_take ht))
  case hb => omega
  intro v1 w1 ho1 hg1 hat1
  have hk1 : Kept nothing w' w1 := (Kept.refl nothing w').grown hg1 (by simp [Value.ownBlock])
  have HR1 : Hid (RRep w1 a R vb _ sv) := HR.out.kept hk1 (fun h => h) (fun _ _ h => h) (fun _ _ _ h => h)
  have h12 := HR1.out.c2
  have hlt1 := HR1.out.lt
  have Ho1 : Hid (w1.ownsRow w'.heap.size 143 2 v1 q (scells (sv.take q))) := by simpa [Hid] using ho1
  clear ho1 hg1 hat1
  have hsz := hk1.size
  have hdl : (scells (sv.drop (q + 1))).length = (sv.length - (q + 1)) * 2 := by rw [scells_len]; simp
  have Hone : Hid (∀ u ∈ scells (sv.drop (q + 1)), u.oneCell' = true) := scells_one _ (fun t ht => HR.out.each t (List.mem_of_mem_drop ht))
  have Hdl : Hid ((scells (sv.drop (q + 1))).length = (sv.length - (q + 1)) * 2) := hdl
  clear hdl
  by_cases hcap : scap = q + 1
  · have hcap' : (scap = q + 1) = True := by simp [hcap]
    have HN : Hid (∀ j u, (scells (sv.drop (q + 1)))[j]? = some u → w1.cell? ((⟨gs, 0, none⟩ : Addr).add j) = some u) := by
      intro j u hu
      have : (scells (sv.drop (q + 1))).length = 0 := by rw [Hdl.out]; omega
      rw [List.eq_nil_of_length_eq_zero this] at hu
      simp at hu
    clear hcap
    go_wp2_with (at_builtin; refine wp_append _ _ _ 2 40 und_rsnaps info_rsnap rfl (by decide) (by decide) _ rfl _ _ rfl w'.heap.size v1 q (scells (sv.take q)) rfl Ho1.out ⟨gs, 0, none⟩ (sv.length - (q + 1)) (scap - (q + 1)) (scells (sv.drop (q + 1))) rfl Hdl.out HN.out Hone.out ?hbA hsz ?hKA)
    case hbA => omega
    intro v2 w2 ho2 hg2 hat2
    have hk2 : Kept nothing w' w2 := hk1.grown hg2 (fun k hk => .inr (owns_above Ho1.out hk))
    have HR2 : Hid (RRep w2 a R vb _ sv) := HR.out.kept hk2 (fun h => h) (fun _ _ h => h) (fun _ _ _ h => h)
    have h22 := HR2.out.c2
    have hlt2 := HR2.out.lt
    have hfz2 := HR2.out.fz 2
    have Ho2 : Hid (w2.ownsRow w'.heap.size 143 2 v2 (q + (sv.length - (q + 1))) (scells (sv.take q ++ sv.drop (q + 1)))) := by rw [scells_append]; exact ho2
    have HE : Hid (RRep (w2.setCell ⟨a, 2, none⟩ v2) a { R with snaps := (sv.take q ++ sv.drop (q + 1)).map SV.out } vb v2 (sv.take q ++ sv.drop (q + 1))) :=
      rrep_snaps' HR2.out.vol HR2.out.blocks (owns_weaken Ho2.out) (by simp; omega) (fun t ht => by
        rw [List.mem_append] at ht
        rcases ht with ht | ht
        · exact HR2.out.each t (List.mem_of_mem_take ht)
        · exact HR2.out.each t (List.mem_of_mem_drop ht))
    have HRow : Hid (RowAt w' (.slice (some ⟨gs, 0, none⟩) sv.length scap) v2) := by
      cases h : v2.ownBlock with
      | none => exact .inr h
      | some g => exact .inl (.inr ⟨g, h, owns_above Ho2.out h⟩)
    obtain ⟨a2, c2, hv2', _, _, _⟩ := owns_open (owns_weaken Ho2.out)
    subst hv2'
    clear ho2 hg2 hat2 hv1 hv2 h12
    go_wp2
    go_ret
    rw [Hf.out]
    exact ⟨rfl, ⟨_, _, HE.out, HRow.out⟩, (hk2.mono (fun _ _ h => h.elim)).setCell (p := ⟨a, 2, none⟩) (.inl (.inl rfl)) _⟩
  · have HN : Hid (∀ j u, (scells (sv.drop (q + 1)))[j]? = some u → w1.cell? ((⟨gs, (q + 1) * 2, none⟩ : Addr).add j) = some u) := by
      intro j u hu
      rw [scells_drop, List.getElem?_drop] at hu
      have := owns_cell HR1.out.snaps hu
      have hadd : (⟨gs, (q + 1) * 2, none⟩ : Addr).add j = ⟨gs, (q + 1) * 2 + j, none⟩ := by unfold Addr.add; split <;> simp_all
      rw [hadd]; exact this
    go_wp2_with (at_builtin; refine wp_append _ _ _ 2 40 und_rsnaps info_rsnap rfl (by decide) (by decide) _ rfl _ _ rfl w'.heap.size v1 q (scells (sv.take q)) rfl Ho1.out ⟨gs, (q + 1) * 2, none⟩ (sv.length - (q + 1)) (scap - (q + 1)) (scells (sv.drop (q + 1))) rfl Hdl.out HN.out Hone.out ?hbB hsz ?hKB)
    case hbB => omega
    intro v2 w2 ho2 hg2 hat2
    have hk2 : Kept nothing w' w2 := hk1.grown hg2 (fun k hk => .inr (owns_above Ho1.out hk))
    have HR2 : Hid (RRep w2 a R vb _ sv) := HR.out.kept hk2 (fun h => h) (fun _ _ h => h) (fun _ _ _ h => h)
    have h22 := HR2.out.c2
    have hlt2 := HR2.out.lt
    have hfz2 := HR2.out.fz 2
    have Ho2 : Hid (w2.ownsRow w'.heap.size 143 2 v2 (q + (sv.length - (q + 1))) (scells (sv.take q ++ sv.drop (q + 1)))) := by rw [scells_append]; exact ho2
    have HE : Hid (RRep (w2.setCell ⟨a, 2, none⟩ v2) a { R with snaps := (sv.take q ++ sv.drop (q + 1)).map SV.out } vb v2 (sv.take q ++ sv.drop (q + 1))) :=
      rrep_snaps' HR2.out.vol HR2.out.blocks (owns_weaken Ho2.out) (by simp; omega) (fun t ht => by
        rw [List.mem_append] at ht
        rcases ht with ht | ht
        · exact HR2.out.each t (List.mem_of_mem_take ht)
        · exact HR2.out.each t (List.mem_of_mem_drop ht))
    have HRow : Hid (RowAt w' (.slice (some ⟨gs, 0, none⟩) sv.length scap) v2) := by
      cases h : v2.ownBlock with
      | none => exact .inr h
      | some g => exact .inl (.inr ⟨g, h, owns_above Ho2.out h⟩)
    obtain ⟨a2, c2, hv2', _, _, _⟩ := owns_open (owns_weaken Ho2.out)
    subst hv2'
    clear ho2 hg2 hat2 hv1 hv2 h12
    go_wp2
    go_ret
    rw [Hf.out]
    exact ⟨rfl, ⟨_, _, HE.out, HRow.out⟩, (hk2.mono (fun _ _ h => h.elim)).setCell (p := ⟨a, 2, none⟩) (.inl (.inl rfl)) _⟩
end Go.Proofs.YtdnjfjdhkmngjaaGreatDoor
