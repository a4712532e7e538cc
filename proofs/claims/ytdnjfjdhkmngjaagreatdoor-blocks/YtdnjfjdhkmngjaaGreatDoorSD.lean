import Derived.Test.YtdnjfjdhkmngjaaGreatDoorSC
import Derived.Test.YtdnjfjdhkmngjaaGreatDoorI
namespace Go.Proofs.YtdnjfjdhkmngjaaGreatDoor
open Go.RowKit

set_option maxRecDepth 100000 in
set_option maxHeartbeats 4000000 in
theorem pSend_bad (b : Nat) (fr to : ByteArray) (w : World) (ι : Nat → Nat) (R : Vol) (vn vs : Value) (sv : List SV) (hP : PRep w b ι R vn vs sv) (hG : Good R) (hs1 : fr.size ≤ maxLen) (hs2 : to.size ≤ maxLen) (hbad : (sendF R fr to).2 ≠ 0) :
    Calls Tryz.prog 26 #[.pointer (some ⟨b, 0, none⟩), .string fr, .string to] w fun e w' => ∃ err, e = .returned (.tuple #[.pointer none, err]) ∧ ErrRep w' err (sendF R fr to).2 ∧ Kept nothing w w' := by
  have Hf1 : Hid (∀ W, Kept nothing w W → Calls Tryz.prog 48 #[.pointer (some ⟨b, 0, none⟩), .string fr] W fun e w' => e = .returned (.int .i64 (findF R.snaps fr)) ∧ Kept nothing W w') := by
    intro W hW
    have h := hP.keptN hW
    rw [hP.out]; exact pfind_any W b fr vs sv h.c2 h.snaps (fun t ht => tab_slice (h.each t ht))
  have Hf2 : Hid (∀ W, Kept nothing w W → Calls Tryz.prog 48 #[.pointer (some ⟨b, 0, none⟩), .string to] W fun e w' => e = .returned (.int .i64 (findF R.snaps to)) ∧ Kept nothing W w') := by
    intro W hW
    have h := hP.keptN hW
    rw [hP.out]; exact pfind_any W b to vs sv h.c2 h.snaps (fun t ht => tab_slice (h.each t ht))
  have Hn1 : Hid (Calls Tryz.prog 29 #[.string fr] w fun e w' => e = .returned (.bool (nameB fr)) ∧ w' = w) := isName_any fr w hs1
  have Hn2 : Hid (Calls Tryz.prog 29 #[.string to] w fun e w' => e = .returned (.bool (nameB to)) ∧ w' = w) := isName_any to w hs2
  clear hP
  by_cases h3 : nameB to = false ∨ (nameB fr = false ∧ fr ≠ ⟨#[]⟩)
  · have Hs : Hid ((sendF R fr to).2 = 3) := by show _ = _; rw [sendF, if_pos h3]
    cases hnt : nameB to with
    | false =>
      rw [hnt] at Hn2
      clear h3 hbad hnt
      go_enter Tryz.func26, Tryz.ntmps26
      go_wp2_with fail
      refine Hn2.out.mono ?_
      rintro e w' ⟨rfl, rfl⟩
      go_wp2_with fail
      refine (refuse_any _ 3 _ (by decide)).mono ?_
      rintro e w3 ⟨err, rfl, herr, hk3⟩
      have Herr : Hid (ErrRep w3 err 3) := herr
      clear herr
      go_wp2
      go_ret2
      exact ⟨_, rfl, by rw [Hs.out]; exact Herr.out, hk3⟩
    | true =>
      have h' : nameB fr = false ∧ fr ≠ ⟨#[]⟩ := h3.resolve_left (by rw [hnt]; decide)
      have hE : fr.toList.isEmpty = false := by rw [str_empty]; simp [h'.2]
      rw [hnt] at Hn2
      rw [h'.1] at Hn1
      clear h3 hbad hnt h'
      go_enter Tryz.func26, Tryz.ntmps26
      go_wp2_with fail
      refine Hn2.out.mono ?_
      rintro e w' ⟨rfl, rfl⟩
      go_wp2_with fail
      refine Hn1.out.mono ?_
      rintro e w' ⟨rfl, rfl⟩
      go_wp2_with fail
      refine (refuse_any _ 3 _ (by decide)).mono ?_
      rintro e w3 ⟨err, rfl, herr, hk3⟩
      have Herr : Hid (ErrRep w3 err 3) := herr
      clear herr
      go_wp2
      go_ret2
      exact ⟨_, rfl, by rw [Hs.out]; exact Herr.out, hk3⟩
  have ht : nameB to = true := by
    cases h : nameB to with
    | true => rfl
    | false => exact absurd (.inl h) h3
  rw [ht] at Hn2
  have Hs4 : Hid (findF R.snaps to < 0 ∨ (findF R.snaps fr < 0 ∧ fr ≠ ⟨#[]⟩) → (sendF R fr to).2 = 4) := by intro h; rw [sendF, if_neg h3, if_pos h]
  have Hs7 : Hid (¬ (findF R.snaps to < 0 ∨ (findF R.snaps fr < 0 ∧ fr ≠ ⟨#[]⟩)) → findF R.snaps to ≤ findF R.snaps fr → (sendF R fr to).2 = 7) := by intro h h'; rw [sendF, if_neg h3, if_neg h, if_pos h']
  have Hs0 : Hid (¬ (findF R.snaps to < 0 ∨ (findF R.snaps fr < 0 ∧ fr ≠ ⟨#[]⟩)) → ¬ findF R.snaps to ≤ findF R.snaps fr → (sendF R fr to).2 = 0) := by
    intro h h'; rw [sendF, if_neg h3, if_neg h, if_neg h']; split <;> rfl
  have Hemp : Hid (fr = ⟨#[]⟩ → ¬ findF R.snaps to < 0 → findF R.snaps fr < findF R.snaps to) := by
    intro h h'; rw [h, findF_empty hG]; omega
  clear ht hG
  generalize findF R.snaps fr = ff at Hf1 Hs4 Hs7 Hs0 Hemp
  generalize findF R.snaps to = ft at Hf2 Hs4 Hs7 Hs0 Hemp
  by_cases he : fr = ⟨#[]⟩
  · have hE : fr.toList.isEmpty = true := by rw [str_empty]; simp [he]
    by_cases h4 : ft < 0
    · have Hs : Hid ((sendF R fr to).2 = 4) := Hs4.out (.inl h4)
      clear h3 he hbad
      go_enter Tryz.func26, Tryz.ntmps26
      go_wp2_with fail
      refine Hn2.out.mono ?_
      rintro e w' ⟨rfl, rfl⟩
      go_wp2_with fail
      refine (Hf2.out _ (Kept.refl _ _)).mono ?_
      rintro e w1 ⟨rfl, hk1⟩
      go_wp2_with fail
      refine (Hf1.out _ hk1).mono ?_
      rintro e w2 ⟨rfl, hk2⟩
      go_wp2_with fail
      refine (refuse_any _ 4 _ (by decide)).mono ?_
      rintro e w3 ⟨err, rfl, herr, hk3⟩
      have Herr : Hid (ErrRep w3 err 4) := herr
      clear herr
      go_wp2
      go_ret2
      exact ⟨_, rfl, by rw [Hs.out]; exact Herr.out, (hk1.trans hk2).trans hk3⟩
    · have hno : ¬ (ft < 0 ∨ (ff < 0 ∧ fr ≠ ⟨#[]⟩)) := by rintro (h | ⟨_, h⟩); exact h4 h; exact h he
      have := Hemp.out he h4
      exact absurd (Hs0.out hno (by omega)) hbad
  · have hE : fr.toList.isEmpty = false := by rw [str_empty]; simp [he]
    have hnf : nameB fr = true := by
      cases h : nameB fr with
      | true => rfl
      | false => exact absurd (.inr ⟨h, he⟩) h3
    rw [hnf] at Hn1
    by_cases h4 : ft < 0
    · have Hs : Hid ((sendF R fr to).2 = 4) := Hs4.out (.inl h4)
      clear h3 he hnf hbad
      go_enter Tryz.func26, Tryz.ntmps26
      go_wp2_with fail
      refine Hn2.out.mono ?_
      rintro e w' ⟨rfl, rfl⟩
      go_wp2_with fail
      refine Hn1.out.mono ?_
      rintro e w' ⟨rfl, rfl⟩
      go_wp2_with fail
      refine (Hf2.out _ (Kept.refl _ _)).mono ?_
      rintro e w1 ⟨rfl, hk1⟩
      go_wp2_with fail
      refine (Hf1.out _ hk1).mono ?_
      rintro e w2 ⟨rfl, hk2⟩
      go_wp2_with fail
      refine (refuse_any _ 4 _ (by decide)).mono ?_
      rintro e w3 ⟨err, rfl, herr, hk3⟩
      have Herr : Hid (ErrRep w3 err 4) := herr
      clear herr
      go_wp2
      go_ret2
      exact ⟨_, rfl, by rw [Hs.out]; exact Herr.out, (hk1.trans hk2).trans hk3⟩
    · by_cases h4' : ff < 0
      · have Hs : Hid ((sendF R fr to).2 = 4) := Hs4.out (.inr ⟨h4', he⟩)
        clear h3 he hnf hbad
        go_enter Tryz.func26, Tryz.ntmps26
        go_wp2_with fail
        refine Hn2.out.mono ?_
        rintro e w' ⟨rfl, rfl⟩
        go_wp2_with fail
        refine Hn1.out.mono ?_
        rintro e w' ⟨rfl, rfl⟩
        go_wp2_with fail
        refine (Hf2.out _ (Kept.refl _ _)).mono ?_
        rintro e w1 ⟨rfl, hk1⟩
        go_wp2_with fail
        refine (Hf1.out _ hk1).mono ?_
        rintro e w2 ⟨rfl, hk2⟩
        go_wp2_with fail
        refine (refuse_any _ 4 _ (by decide)).mono ?_
        rintro e w3 ⟨err, rfl, herr, hk3⟩
        have Herr : Hid (ErrRep w3 err 4) := herr
        clear herr
        go_wp2
        go_ret2
        exact ⟨_, rfl, by rw [Hs.out]; exact Herr.out, (hk1.trans hk2).trans hk3⟩
      · have hno : ¬ (ft < 0 ∨ (ff < 0 ∧ fr ≠ ⟨#[]⟩)) := by rintro (h | ⟨h, _⟩); exact h4 h; exact h4' h
        by_cases h7 : ft ≤ ff
        · have Hs : Hid ((sendF R fr to).2 = 7) := Hs7.out hno h7
          clear h3 he hnf hbad hno
          go_enter Tryz.func26, Tryz.ntmps26
          go_wp2_with fail
          refine Hn2.out.mono ?_
          rintro e w' ⟨rfl, rfl⟩
          go_wp2_with fail
          refine Hn1.out.mono ?_
          rintro e w' ⟨rfl, rfl⟩
          go_wp2_with fail
          refine (Hf2.out _ (Kept.refl _ _)).mono ?_
          rintro e w1 ⟨rfl, hk1⟩
          go_wp2_with fail
          refine (Hf1.out _ hk1).mono ?_
          rintro e w2 ⟨rfl, hk2⟩
          go_wp2_with fail
          refine (refuse_any _ 7 _ (by decide)).mono ?_
          rintro e w3 ⟨err, rfl, herr, hk3⟩
          have Herr : Hid (ErrRep w3 err 7) := herr
          clear herr
          go_wp2
          go_ret2
          exact ⟨_, rfl, by rw [Hs.out]; exact Herr.out, (hk1.trans hk2).trans hk3⟩
        · exact absurd (Hs0.out hno h7) hbad

set_option maxRecDepth 100000 in
set_option maxHeartbeats 4000000 in
theorem pSend_whole (b : Nat) (fr to : ByteArray) (w : World) (ι : Nat → Nat) (R : Vol) (vn vs : Value) (sv : List SV) (hP : PRep w b ι R vn vs sv) (hG : Good R) (hs2 : to.size ≤ maxLen) (he : fr = ⟨#[]⟩) (hto : nameB to = true) (hft : 0 ≤ findF R.snaps to) :
    Calls Tryz.prog 26 #[.pointer (some ⟨b, 0, none⟩), .string fr, .string to] w fun e w' => ∃ x, e = .returned (.tuple #[.pointer (some ⟨x, 0, none⟩), .nilIface]) ∧ w.heap.size ≤ x ∧ w'.heap[x]? = some (.cells #[.string (bstr (wholeL (texts (snapOf R to))))] 105 (0, 0)) ∧ Kept nothing w w' := by
  have hsm0 := (snapOf_good hG to (by omega)).2
  have hlen0 := (snapOf_good hG to (by omega)).1
  have hfew := hG.few
  have hsome := hG.some
  have hr2 := findF_range R.snaps to
  obtain ⟨qt, hqt⟩ := Int.eq_ofNat_of_zero_le (show 0 ≤ findF R.snaps to by omega)
  have hsl : R.snaps.length = sv.length := by rw [hP.out]; simp
  have hsl6 : sv.length ≤ 6 := by have := hG.snaps; omega
  have hqtl : qt < sv.length := by omega
  obtain ⟨gs, scap, hvs, _, hgs, hsn, hscm⟩ := owns_parts hP.snaps (by omega)
  subst hvs
  have hv2 := hP.c2
  have hblt := hP.lt
  have hxq : sv[qt]? = some sv[qt] := by simp
  have hcq := owns_cell hP.snaps (pairs_get (fun t : SV => .string t.1) (fun t => t.2.1) sv qt _ hxq).2
  have hev := hP.each sv[qt] (by simp)
  have hsnap : snapOf R to = sv[qt].2.2 := by unfold snapOf; rw [hqt, hP.out]; simp [hqtl, SV.out]
  rw [hsnap] at hsm0 hlen0
  generalize sv[qt].2.2 = nbs at hev hsm0 hlen0 hsnap
  generalize sv[qt].2.1 = tv at hcq hev
  obtain ⟨ta, tn, tc, htv⟩ := tab_slice hev
  subst htv
  have Htx : Hid (∀ W, Kept nothing w W → Calls Tryz.prog 52 #[.agg #[.slice ta tn tc]] W fun e w' => ∃ v', e = .returned v' ∧ w'.ownsRow W.heap.size 9 1 v' nbs.length (strsOf (texts nbs)) ∧ Kept nothing W w') :=
    fun W hW => cTexts_any W ι _ nbs (hev.keptN hW) (by omega) (by omega)
  have Hf1 : Hid (∀ W, Kept nothing w W → Calls Tryz.prog 48 #[.pointer (some ⟨b, 0, none⟩), .string fr] W fun e w' => e = .returned (.int .i64 (findF R.snaps fr)) ∧ Kept nothing W w') := by
    intro W hW
    have h := hP.keptN hW
    rw [hP.out]; exact pfind_any W b fr _ sv h.c2 h.snaps (fun t ht => tab_slice (h.each t ht))
  have Hf2 : Hid (∀ W, Kept nothing w W → Calls Tryz.prog 48 #[.pointer (some ⟨b, 0, none⟩), .string to] W fun e w' => e = .returned (.int .i64 qt) ∧ Kept nothing W w') := by
    intro W hW
    have h := hP.keptN hW
    rw [← hqt, hP.out]; exact pfind_any W b to _ sv h.c2 h.snaps (fun t ht => tab_slice (h.each t ht))
  have Hn2 : Hid (Calls Tryz.prog 29 #[.string to] w fun e w' => e = .returned (.bool true) ∧ w' = w) := by rw [← hto]; exact isName_any to w hs2
  have hE : fr.toList.isEmpty = true := by rw [str_empty]; simp [he]
  have hff : findF R.snaps fr = -1 := by rw [he]; exact findF_empty hG
  rw [hff] at Hf1
  have Hws : Hid (∀ W v, W.ownsRow 0 9 1 v (texts nbs).length (strsOf (texts nbs)) → Calls Tryz.prog 53 #[v] W fun e w' => e = .returned (.string (bstr (wholeL (texts (snapOf R to))))) ∧ Kept nothing W w') := by
    intro W v hv
    rw [hsnap]
    exact sWhole_any W v (texts nbs) hv (by rw [texts_len]; omega) (texts_small hsm0)
  clear hP hG hev hsm0 hxq hff he hsnap hto
  obtain ⟨B, hB⟩ : ∃ B, B = bstr (wholeL (texts (snapOf R to))) := ⟨_, rfl⟩
  rw [← hB] at Hws ⊢
  clear hB
  go_enter Tryz.func26, Tryz.ntmps26
  go_wp2_with fail
  refine Hn2.out.mono ?_
  rintro e w' ⟨rfl, rfl⟩
  go_wp2_with fail
  refine (Hf2.out _ (Kept.refl _ _)).mono ?_
  rintro e w1 ⟨rfl, hk1⟩
  go_wp2_with fail
  refine (Hf1.out _ hk1).mono ?_
  rintro e w2 ⟨rfl, hk2⟩
  have hk02 := hk1.trans hk2
  have e2 := (hk02.cell (p := ⟨b, 2, none⟩) hblt (fun h => h)).trans hv2
  have e2l : b < w2.heap.size := Nat.lt_of_lt_of_le hblt hk02.size
  have eq := (hk02.cell (p := ⟨gs, qt * 2 + 1, none⟩) hgs (fun h => h)).trans hcq
  have eql : gs < w2.heap.size := Nat.lt_of_lt_of_le hgs hk02.size
  go_wp2_with fail
  refine (Htx.out _ hk02).mono ?_
  rintro e w3 ⟨v3, rfl, ho3, hk3⟩
  have Ho3 : Hid (w3.ownsRow 0 9 1 v3 (texts nbs).length (strsOf (texts nbs))) := by rw [texts_len]; exact owns_weaken ho3
  clear ho3 e2 eq
  go_wp2_with fail
  refine (Hws.out _ _ Ho3.out).mono ?_
  rintro e w4 ⟨rfl, hk4⟩
  go_wp2
  go_ret2
  have hk04 := (hk02.trans hk3).trans hk4
  exact ⟨w4.heap.size, rfl, hk04.size, heap_alloc_new w4 _, hk04.alloc _⟩

set_option maxRecDepth 100000 in
set_option maxHeartbeats 4000000 in
theorem pSend_since (b : Nat) (fr to : ByteArray) (w : World) (ι : Nat → Nat) (R : Vol) (vn vs : Value) (sv : List SV) (hP : PRep w b ι R vn vs sv) (hG : Good R) (hs1 : fr.size ≤ maxLen) (hs2 : to.size ≤ maxLen) (he : fr ≠ ⟨#[]⟩) (hfr : nameB fr = true) (hto : nameB to = true) (hff : 0 ≤ findF R.snaps fr) (hft : findF R.snaps fr < findF R.snaps to) :
    Calls Tryz.prog 26 #[.pointer (some ⟨b, 0, none⟩), .string fr, .string to] w fun e w' => ∃ x, e = .returned (.tuple #[.pointer (some ⟨x, 0, none⟩), .nilIface]) ∧ w.heap.size ≤ x ∧ w'.heap[x]? = some (.cells #[.string (bstr (sinceL (texts (snapOf R fr)) (texts (snapOf R to))))] 105 (0, 0)) ∧ Kept nothing w w' := by
  have hsm0 := (snapOf_good hG to (by omega)).2
  have hlen0 := (snapOf_good hG to (by omega)).1
  have hfew := hG.few
  have hsome := hG.some
  have hr2 := findF_range R.snaps to
  obtain ⟨qt, hqt⟩ := Int.eq_ofNat_of_zero_le (show 0 ≤ findF R.snaps to by omega)
  have hsl : R.snaps.length = sv.length := by rw [hP.out]; simp
  have hsl6 : sv.length ≤ 6 := by have := hG.snaps; omega
  have hqtl : qt < sv.length := by omega
  obtain ⟨gs, scap, hvs, _, hgs, hsn, hscm⟩ := owns_parts hP.snaps (by omega)
  subst hvs
  have hv2 := hP.c2
  have hblt := hP.lt
  have hxq : sv[qt]? = some sv[qt] := by simp
  have hcq := owns_cell hP.snaps (pairs_get (fun t : SV => .string t.1) (fun t => t.2.1) sv qt _ hxq).2
  have hev := hP.each sv[qt] (by simp)
  have hsnap : snapOf R to = sv[qt].2.2 := by unfold snapOf; rw [hqt, hP.out]; simp [hqtl, SV.out]
  rw [hsnap] at hsm0 hlen0
  generalize sv[qt].2.2 = nbs at hev hsm0 hlen0 hsnap
  generalize sv[qt].2.1 = tv at hcq hev
  obtain ⟨ta, tn, tc, htv⟩ := tab_slice hev
  subst htv
  have Htx : Hid (∀ W, Kept nothing w W → Calls Tryz.prog 52 #[.agg #[.slice ta tn tc]] W fun e w' => ∃ v', e = .returned v' ∧ w'.ownsRow W.heap.size 9 1 v' nbs.length (strsOf (texts nbs)) ∧ Kept nothing W w') :=
    fun W hW => cTexts_any W ι _ nbs (hev.keptN hW) (by omega) (by omega)
  have Hf1 : Hid (∀ W, Kept nothing w W → Calls Tryz.prog 48 #[.pointer (some ⟨b, 0, none⟩), .string fr] W fun e w' => e = .returned (.int .i64 (findF R.snaps fr)) ∧ Kept nothing W w') := by
    intro W hW
    have h := hP.keptN hW
    rw [hP.out]; exact pfind_any W b fr _ sv h.c2 h.snaps (fun t ht => tab_slice (h.each t ht))
  have Hf2 : Hid (∀ W, Kept nothing w W → Calls Tryz.prog 48 #[.pointer (some ⟨b, 0, none⟩), .string to] W fun e w' => e = .returned (.int .i64 qt) ∧ Kept nothing W w') := by
    intro W hW
    have h := hP.keptN hW
    rw [← hqt, hP.out]; exact pfind_any W b to _ sv h.c2 h.snaps (fun t ht => tab_slice (h.each t ht))
  have Hn2 : Hid (Calls Tryz.prog 29 #[.string to] w fun e w' => e = .returned (.bool true) ∧ w' = w) := by rw [← hto]; exact isName_any to w hs2
  have hE : fr.toList.isEmpty = false := by rw [str_empty]; simp [he]
  obtain ⟨qf, hqf⟩ := Int.eq_ofNat_of_zero_le hff
  rw [hqf] at Hf1
  have Hn1 : Hid (Calls Tryz.prog 29 #[.string fr] w fun e w' => e = .returned (.bool true) ∧ w' = w) := by rw [← hfr]; exact isName_any fr w hs1
  have hqfl : qf < sv.length := by omega
  have hqft : (qf : Int) < (qt : Int) := by omega
  have hxf : sv[qf]? = some sv[qf] := by simp
  have hcf := owns_cell hP.snaps (pairs_get (fun t : SV => .string t.1) (fun t => t.2.1) sv qf _ hxf).2
  have hef := hP.each sv[qf] (by simp)
  have hsnapf : snapOf R fr = sv[qf].2.2 := by unfold snapOf; rw [hqf, hP.out]; simp [hqfl, SV.out]
  have hsmf := (snapOf_good hG fr hff).2
  have hlenf := (snapOf_good hG fr hff).1
  rw [hsnapf] at hsmf hlenf
  generalize sv[qf].2.2 = obs at hef hsmf hlenf hsnapf
  generalize sv[qf].2.1 = fv at hcf hef
  obtain ⟨ga, fn, fc, hfv⟩ := tab_slice hef
  subst hfv
  have Htf : Hid (∀ W, Kept nothing w W → Calls Tryz.prog 52 #[.agg #[.slice ga fn fc]] W fun e w' => ∃ v', e = .returned v' ∧ w'.ownsRow W.heap.size 9 1 v' obs.length (strsOf (texts obs)) ∧ Kept nothing W w') :=
    fun W hW => cTexts_any W ι _ obs (hef.keptN hW) (by omega) (by omega)
  have Hws : Hid (∀ W v v', W.ownsRow 0 9 1 v (texts nbs).length (strsOf (texts nbs)) → W.ownsRow 0 9 1 v' (texts obs).length (strsOf (texts obs)) → Calls Tryz.prog 54 #[v', v] W fun e w' => e = .returned (.string (bstr (sinceL (texts (snapOf R fr)) (texts (snapOf R to))))) ∧ Kept nothing W w') := by
    intro W v v' hv hv'
    rw [hsnap, hsnapf]
    exact sSince_any W v' v (texts obs) (texts nbs) hv' hv (by rw [texts_len, texts_len]; omega) (by rw [texts_len]; omega) (texts_small hsmf) (texts_small hsm0)
  clear hP hG hev hsm0 hxq he hsnap hto hfr hef hsmf hxf hsnapf hlenf
  obtain ⟨B, hB⟩ : ∃ B, B = bstr (sinceL (texts (snapOf R fr)) (texts (snapOf R to))) := ⟨_, rfl⟩
  rw [← hB] at Hws ⊢
  clear hB
  go_enter Tryz.func26, Tryz.ntmps26
  go_wp2_with fail
  refine Hn2.out.mono ?_
  rintro e w' ⟨rfl, rfl⟩
  go_wp2_with fail
  refine Hn1.out.mono ?_
  rintro e w' ⟨rfl, rfl⟩
  go_wp2_with fail
  refine (Hf2.out _ (Kept.refl _ _)).mono ?_
  rintro e w1 ⟨rfl, hk1⟩
  go_wp2_with fail
  refine (Hf1.out _ hk1).mono ?_
  rintro e w2 ⟨rfl, hk2⟩
  have hk02 := hk1.trans hk2
  have e2 := (hk02.cell (p := ⟨b, 2, none⟩) hblt (fun h => h)).trans hv2
  have e2l : b < w2.heap.size := Nat.lt_of_lt_of_le hblt hk02.size
  have eq := (hk02.cell (p := ⟨gs, qt * 2 + 1, none⟩) hgs (fun h => h)).trans hcq
  have eql : gs < w2.heap.size := Nat.lt_of_lt_of_le hgs hk02.size
  go_wp2_with fail
  refine (Htx.out _ hk02).mono ?_
  rintro e w3 ⟨v3, rfl, ho3, hk3⟩
  have Ho3 : Hid (w3.ownsRow 0 9 1 v3 (texts nbs).length (strsOf (texts nbs))) := by rw [texts_len]; exact owns_weaken ho3
  have hk03 := hk02.trans hk3
  have f2 := (hk03.cell (p := ⟨b, 2, none⟩) hblt (fun h => h)).trans hv2
  have f2l : b < w3.heap.size := Nat.lt_of_lt_of_le hblt hk03.size
  have fq := (hk03.cell (p := ⟨gs, qf * 2 + 1, none⟩) hgs (fun h => h)).trans hcf
  have fql : gs < w3.heap.size := Nat.lt_of_lt_of_le hgs hk03.size
  clear ho3 e2 eq
  go_wp2_with fail
  refine (Htf.out _ hk03).mono ?_
  rintro e w4 ⟨v4, rfl, ho4, hk4⟩
  have Ho4 : Hid (w4.ownsRow 0 9 1 v4 (texts obs).length (strsOf (texts obs))) := by rw [texts_len]; exact owns_weaken ho4
  clear ho4 f2 fq
  go_wp2_with fail
  refine (Hws.out _ _ _ (owns_kept Ho3.out hk4 (fun _ _ h => h)) Ho4.out).mono ?_
  rintro e w5 ⟨rfl, hk5⟩
  go_wp2
  go_ret2
  have hk05 := (hk03.trans hk4).trans hk5
  exact ⟨w5.heap.size, rfl, hk05.size, heap_alloc_new w5 _, hk05.alloc _⟩
end Go.Proofs.YtdnjfjdhkmngjaaGreatDoor
