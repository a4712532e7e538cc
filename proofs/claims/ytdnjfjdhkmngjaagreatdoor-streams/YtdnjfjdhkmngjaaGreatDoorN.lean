import Derived.Test.YtdnjfjdhkmngjaaGreatDoorN0
namespace Go.Proofs.YtdnjfjdhkmngjaaGreatDoor
open Go.RowKit

theorem nameB_size {s : ByteArray} (h : nameB s = true) : s.size ≤ 4 := by
  simp only [nameB, Bool.and_eq_true, decide_eq_true_eq] at h
  exact h.2
theorem new_two_at (w : World) (x y : Value) (t : TypeId) : ∀ j u, [x, y][j]? = some u → (w.alloc (.cells #[x, y] t)).cell? ((⟨w.heap.size, 0, none⟩ : Addr).add j) = some u := cell_two_new w x y t
theorem one_snap (s : ByteArray) (a : Option Addr) (n c : Nat) : ∀ u ∈ [Value.string s, .slice a n c], u.oneCell' = true := by
  intro u hu; simp at hu; rcases hu with rfl | rfl <;> rfl
/-- The ids of a volume, one snapshot more. -/
theorem ids_snap (R : Vol) (name : ByteArray) (c : Nat) (h : c ∈ allIds { R with snaps := R.snaps ++ [(name, R.blocks)] }) : c ∈ allIds R := by
  simp only [allIds, List.mem_append, List.flatMap_append, List.flatMap_cons, List.flatMap_nil, List.append_nil] at h ⊢
  rcases h with h | h | h
  · exact .inl h
  · exact .inr h
  · exact .inl h

/-- Behind the append of a snapshot: the volume with it. -/
theorem prep_snapped {w w1 w2 : World} {b : Nat} {ι : Nat → Nat} {R : Vol} {vs v2 vn : Value} {sv : List SV} {name : ByteArray} (hP : PRep w b ι R vn vs sv) (hk1 : Kept nothing w w1)
    (ho2 : w2.ownsRow 0 84 2 v2 (sv.length + 1) (scells sv ++ [.string name, vn])) (hg2 : (w1.alloc (.cells #[.string name, vn] 84)).grownBy w2 vs.ownBlock) (hat2 : v2.ownBlock = vs.ownBlock ∨ v2.ownBlock = some (w1.heap.size + 1)) :
    PRep (w2.setCell ⟨b, 2, none⟩ v2) b ι { R with snaps := R.snaps ++ [(name, R.blocks)] } vn v2 (sv ++ [(name, vn, R.blocks)]) ∧ RowAt w vs v2 ∧ Kept (fun k => k = b ∨ vs.ownBlock = some k) w (w2.setCell ⟨b, 2, none⟩ v2) ∧ w2.heap[b]? = some (.cells #[.int .i64 (R.pool : Int), vn, vs] 73 (0, 0)) := by
  have hP1 := hP.keptN hk1
  have hkA : Kept (fun k => vs.ownBlock = some k) w1 w2 := ((Kept.refl _ w1).alloc _).grown hg2 (fun k hk => .inl hk)
  have htag : ∀ {t' : TypeId}, t' ≠ 84 → ∀ g cur, w1.heap[g]? = some (.cells cur t' (0, 0)) → ¬ vs.ownBlock = some g := by
    intro t' ht g cur hg h
    obtain ⟨cur', hc⟩ := owns_tag hP1.snaps h
    exact blk_ne hg hc ht rfl
  have hvol2 := hkA.get hP1.vol (htag (by decide) _ _ hP1.vol)
  refine ⟨?_, ?_, ?_, hvol2⟩
  · refine prep_snaps (R := R) hvol2 (hP1.now.kept hkA (htag (by decide)) (htag (by decide))) (n := sv.length + 1) (by rw [scells_append]; exact ho2) (by simp) ?_ ?_ ?_
    · intro t ht
      rw [List.mem_append] at ht
      rcases ht with ht | ht
      · exact (hP1.each t ht).kept hkA (htag (by decide)) (htag (by decide))
      · simp at ht; subst ht
        exact hP1.now.kept hkA (htag (by decide)) (htag (by decide))
    · rw [hP.out]; simp [SV.out]
    · exact hP.inj.sub (ids_snap R name)
  · rcases hat2 with h | h
    · exact .inl (.inl h)
    · exact .inl (.inr ⟨_, h, by have := hk1.size; omega⟩)
  · refine Kept.setCell (p := ⟨b, 2, none⟩) ?_ (.inl (.inl rfl)) v2
    exact (hk1.mono (fun _ _ h => h.elim)).trans' hkA (fun i _ h => .inr h)

theorem six_bytes {n : Nat} (h : n < 6) : (n + 1) * 40 ≤ 140737488355328 := by omega
/-- The same, in the walk's own forms. -/
theorem snapped_parts {w w1 w2 : World} {b : Nat} {ι : Nat → Nat} {R : Vol} {vs v2 vn : Value} {sv : List SV} {name : ByteArray} (hP : PRep w b ι R vn vs sv) (hk1 : Kept nothing w w1)
    (ho2 : w2.ownsRow 0 84 2 v2 (sv.length + 1) (scells sv ++ [.string name, vn])) (hg2 : (w1.alloc (.cells #[.string name, vn] 84)).grownBy w2 vs.ownBlock) (hat2 : v2.ownBlock = vs.ownBlock ∨ v2.ownBlock = some (w1.alloc (.cells #[.string name, vn] 84)).heap.size) :
    ∃ g3 cap3, v2 = .slice (some ⟨g3, 0, none⟩) (sv.length + 1) cap3 ∧ Hid (PRep (w2.setCell ⟨b, 2, none⟩ v2) b ι { R with snaps := R.snaps ++ [(name, R.blocks)] } vn v2 (sv ++ [(name, vn, R.blocks)]) ∧ RowAt w vs v2 ∧ Kept (fun k => k = b ∨ vs.ownBlock = some k) w (w2.setCell ⟨b, 2, none⟩ v2)) ∧ w2.cell? ⟨b, 2, none⟩ = some vs ∧ w2.frozen? ⟨b, 2, none⟩ = false := by
  obtain ⟨g3, cap3, hv3, _, _, _, _⟩ := owns_parts ho2 (by omega)
  have HS := prep_snapped hP hk1 ho2 hg2 (by simpa using hat2)
  exact ⟨g3, cap3, hv3, ⟨HS.1, HS.2.1, HS.2.2.1⟩, blk_cell HS.2.2.2 2 rfl, blk_frozen HS.2.2.2 2⟩

set_option maxHeartbeats 2000000 in
/-- May one be added? -/
theorem mayAdd_any (b : Nat) (s name : ByteArray) (w : World) (ι : Nat → Nat) (R : Vol) (vn vs : Value) (sv : List SV) (hP : PRep w b ι R vn vs sv) :
    Calls Tryz.prog 32 #[.pointer (some ⟨b, 0, none⟩), .string s, .string name] w fun e w' => ∃ err, e = .returned err ∧ ErrRep w' err (freshF R name) ∧ Kept nothing w w' := by
  have HP : Hid (PRep w b ι R vn vs sv) := hP
  have hlt := hP.lt
  have Hcall : Hid (Calls Tryz.prog 48 #[.pointer (some ⟨b, 0, none⟩), .string name] w fun e w' => e = .returned (.int .i64 (findF (sv.map SV.out) name)) ∧ Kept nothing w w') := pfind_any w b name vs sv hP.c2 hP.snaps (fun t ht => tab_slice (hP.each t ht))
  obtain ⟨sa, scap, hvs, hvs1, hvs2, hvs3⟩ := owns_open hP.snaps
  subst hvs
  have Hfr : Hid (freshF R name = if 0 ≤ findF (sv.map SV.out) name then 5 else if 6 ≤ sv.length then 6 else 0) := by
    show _ = _; rw [freshF, hP.out]; simp
  unfold maxLen at hvs2
  clear hP hvs3
  generalize findF (sv.map SV.out) name = fd at Hfr Hcall
  by_cases hfd : 0 ≤ fd
  · have Hf : Hid (freshF R name = 5) := by rw [Hfr.out, if_pos hfd]; rfl
    clear Hfr
    go_enter Tryz.func32, Tryz.ntmps32
    go_wp2_with (first | (go_at_call 48; refine Hcall.out.mono ?_; rintro e w1 ⟨rfl, hk1⟩) | (go_at_call 30; refine (refuse_hid (by decide)).out.mono ?_; rintro e w2 ⟨err, rfl, he, hk2⟩))
    go_ret
    rw [Hf.out]
    exact ⟨_, rfl, he, hk1.trans hk2⟩
  by_cases h6 : 6 ≤ sv.length
  · have Hf : Hid (freshF R name = 6) := by rw [Hfr.out, if_neg hfd, if_pos h6]; rfl
    clear Hfr
    go_enter Tryz.func32, Tryz.ntmps32
    go_wp2_with (first | (go_at_call 48; refine Hcall.out.mono ?_; rintro e w1 ⟨rfl, hk1⟩; have hc2' := (HP.out.keptN hk1).c2) | (go_at_call 30; refine (refuse_hid (by decide)).out.mono ?_; rintro e w2 ⟨err, rfl, he, hk2⟩))
    go_ret
    rw [Hf.out]
    exact ⟨_, rfl, he, hk1.trans hk2⟩
  have Hf : Hid (freshF R name = 0) := by rw [Hfr.out, if_neg hfd, if_neg h6]; rfl
  clear Hfr
  go_enter Tryz.func32, Tryz.ntmps32
  go_wp2_with (go_at_call 48; refine Hcall.out.mono ?_; rintro e w1 ⟨rfl, hk1⟩; have hc2' := (HP.out.keptN hk1).c2)
  go_ret
  rw [Hf.out]
  exact ⟨_, rfl, ErrRep.nil _, hk1⟩

set_option maxRecDepth 100000 in
set_option maxHeartbeats 8000000 in
theorem pSnap_any (b : Nat) (name : ByteArray) (w : World) (ι : Nat → Nat) (R : Vol) (vn vs : Value) (sv : List SV) (hP : PRep w b ι R vn vs sv) (hG : Good R) (hs : name.size ≤ maxLen) :
    Calls Tryz.prog 21 #[.pointer (some ⟨b, 0, none⟩), .string name] w fun e w' => ∃ err, e = .returned err ∧ ErrRep w' err (snapF R name).2 ∧ (∃ vs' sv', PRep w' b ι (snapF R name).1 vn vs' sv' ∧ RowAt w vs vs') ∧ Kept (fun k => k = b ∨ vs.ownBlock = some k) w w' := by
  have HP : Hid (PRep w b ι R vn vs sv) := hP
  have HG : Hid (Good R) := hG
  have hc1 := hP.c1
  have hc2 := hP.c2
  have hlt := hP.lt
  have Hn : Hid (Calls Tryz.prog 29 #[.string name] w fun e w' => e = .returned (.bool (nameB name)) ∧ w' = w) := isName_any name w hs
  have Hcall : Hid (Calls Tryz.prog 32 #[.pointer (some ⟨b, 0, none⟩), .string ⟨#[83, 110, 97, 112]⟩, .string name] w fun e w' => ∃ err, e = .returned err ∧ ErrRep w' err (freshF R name) ∧ Kept nothing w w') := mayAdd_any b _ name w ι R vn vs sv hP
  have hsl : sv.length ≤ 6 := by have := hG.snaps; rw [hP.out] at this; simpa using this
  obtain ⟨va, vcap, hvv, hva1, hva2, hva3⟩ := owns_open hP.now.row
  subst hvv
  clear hP hG hva1 hva2 hva3
  by_cases hnb : nameB name = false
  · have Hf : Hid (snapF R name = (R, 3)) := by show _ = _; rw [snapF, if_pos hnb]
    rw [hnb] at Hn
    clear hnb
    go_enter Tryz.func21, Tryz.ntmps21
    go_wp2_with (first | (go_at_call 29; refine Hn.out.mono ?_; rintro e w' ⟨rfl, rfl⟩) | (go_at_call 30; refine (refuse_hid (by decide)).out.mono ?_; rintro e w2 ⟨err, rfl, he, hk2⟩))
    go_ret
    rw [Hf.out]
    exact ⟨_, rfl, he, ⟨_, _, HP.out.keptN hk2, RowAt.same _ _⟩, hk2.mono (fun _ _ h => h.elim)⟩
  have hnb' : nameB name = true := by simpa using hnb
  rw [hnb'] at Hn
  have Hfr : Hid (freshF R name = if 0 ≤ findF (sv.map SV.out) name then 5 else if 6 ≤ sv.length then 6 else 0) := by
    show _ = _; rw [freshF, HP.out.out]; simp
  have Hsn : Hid (snapF R name = if freshF R name ≠ 0 then (R, freshF R name) else ({ R with snaps := R.snaps ++ [(name, R.blocks)] }, 0)) := by
    show _ = _; rw [snapF, if_neg hnb]
  have hsz4 := nameB_size hnb'
  clear hnb hnb'
  by_cases hfr : freshF R name ≠ 0
  · have Hf : Hid (snapF R name = (R, freshF R name)) := by rw [Hsn.out, if_pos hfr]; rfl
    clear Hsn Hfr
    have Hx : Hid (Calls Tryz.prog 32 #[.pointer (some ⟨b, 0, none⟩), .string ⟨#[83, 110, 97, 112]⟩, .string name] w fun e w' => ∃ y, e = .returned (.iface 156 y) ∧ ErrRep w' (.iface 156 y) (freshF R name) ∧ Kept nothing w w') := by
      refine Hcall.out.mono ?_
      rintro e w' ⟨err, rfl, he, hk⟩
      rcases he with ⟨h, _⟩ | ⟨h0, b', f', s', rfl, hb', hf'⟩
      · exact absurd h hfr
      · exact ⟨_, rfl, .inr ⟨h0, b', f', s', rfl, hb', hf'⟩, hk⟩
    clear hfr Hcall
    go_enter Tryz.func21, Tryz.ntmps21
    go_wp2_with (first | (go_at_call 29; refine Hn.out.mono ?_; rintro e w' ⟨rfl, rfl⟩) | (go_at_call 32; refine Hx.out.mono ?_; rintro e w1 ⟨y, rfl, he, hk1⟩))
    go_ret
    rw [Hf.out]
    exact ⟨_, rfl, he, ⟨_, _, HP.out.keptN hk1, RowAt.same _ _⟩, hk1.mono (fun _ _ h => h.elim)⟩
  have hfr0 : freshF R name = 0 := by simpa using hfr
  obtain ⟨sa, scap, hvs, hvs1, hvs2, hvs3⟩ := owns_open HP.out.snaps
  subst hvs
  clear hvs1 hvs2 hvs3
  have h6 : sv.length < 6 := by
    by_cases hfd : 0 ≤ findF (sv.map SV.out) name
    · rw [Hfr.out, if_pos hfd] at hfr0; exact absurd hfr0 (by decide)
    · by_cases h6 : 6 ≤ sv.length
      · rw [Hfr.out, if_neg hfd, if_pos h6] at hfr0; exact absurd hfr0 (by decide)
      · omega
  have Hf : Hid (snapF R name = ({ R with snaps := R.snaps ++ [(name, R.blocks)] }, 0)) := by
    rw [Hsn.out, if_neg hfr]; rfl
  have Hx : Hid (Calls Tryz.prog 32 #[.pointer (some ⟨b, 0, none⟩), .string ⟨#[83, 110, 97, 112]⟩, .string name] w fun e w' => e = .returned .nilIface ∧ Kept nothing w w') := by
    refine Hcall.out.mono ?_
    rintro e w' ⟨err, rfl, he, hk⟩
    rcases he with ⟨_, rfl⟩ | ⟨h0, _⟩
    · exact ⟨rfl, hk⟩
    · exact absurd hfr0 h0
  clear Hsn Hfr hfr hfr0 Hcall
  go_enter Tryz.func21, Tryz.ntmps21
  go_wp2_with (first | (go_at_call 29; refine Hn.out.mono ?_; rintro e w' ⟨rfl, rfl⟩))
  refine Hx.out.mono ?_
  rintro e w1 ⟨rfl, hk1⟩
  have HP1 : Hid (PRep w1 b ι R (.slice va R.blocks.length vcap) (.slice sa sv.length scap) sv) := HP.out.keptN hk1
  have h11 := HP1.out.c1
  have h12 := HP1.out.c2
  have hlt1 := HP1.out.lt
  have hf12 := HP1.out.fz 2
  have Hclone : Hid (Calls Tryz.prog 35 #[.string name] w1.drew fun e w' => ∃ v, e = .returned v ∧ v = .string name ∧ Kept nothing w1 w') := (sClone_any name w1.drew (by omega)).mono (fun e w' h => ⟨_, h.1, rfl, h.2.of_drew⟩)
  go_wp2_with fail
  clear Hn Hx hc1 hc2 hlt hs HG
  have HsL : Hid (sv.length < 6) := h6
  clear hsl h6
  go_region_law (first
    | (refine step_append 71 84 (.agg #[.string ⟨#[]⟩, .slice none 0 0]) 2 40 und_psnaps info_psnap rfl (by decide) (by decide) _ rfl (.tmp 20) (.tmp 28) rfl 0 (.slice sa sv.length scap) sv.length (scells sv) ?hs (HP2.out.snaps.alloc _) ⟨w2.heap.size, 0, none⟩ 1 1 [.string name, .slice va R.blocks.length vcap] ?hx rfl (new_two_at _ _ _ _) (one_snap _ _ _ _) (six_bytes HsL.out) (Nat.zero_le _) ?_; (case hs => simp [Act.eval]); (case hx => simp [Act.eval]); intro v3 w3 ho3 hg3 hat3; obtain ⟨g3, cap3, hv3, HS⟩ := snapped_parts HP.out (hk1.trans hk2) ho3 hg3 hat3; subst hv3; have hb3 := HS.2.1; have hfz3 := HS.2.2; have HSH := HS.1; clear HS ho3 hg3 hat3 h21 h22 hf22 hlt2)
    | (refine step_call _ rfl 35 (.tmp 21) #[9] rfl enter_sClone (.string name) ?ha (fun v w' => v = .string name ∧ Kept nothing w1 w') Hclone.out ?_; (case ha => simp [Act.eval, Act.put]); rintro v w2 ⟨rfl, hk2⟩; have HP2 : Hid (PRep w2 b ι R (.slice va R.blocks.length vcap) (.slice sa sv.length scap) sv) := HP1.out.keptN hk2; have h21 := HP2.out.c1; have h22 := HP2.out.c2; have hlt2 := HP2.out.lt; have hf22 := HP2.out.fz 2; clear h11 h12 hlt1 hf12))
  all_goals
    go_wp2
    go_ret
    rw [Hf.out]
    exact ⟨_, rfl, ErrRep.nil _, ⟨_, _, HSH.out.1, HSH.out.2.1⟩, HSH.out.2.2⟩
end Go.Proofs.YtdnjfjdhkmngjaaGreatDoor
