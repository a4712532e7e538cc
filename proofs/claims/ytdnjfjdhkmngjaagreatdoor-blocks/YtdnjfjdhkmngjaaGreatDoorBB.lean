import Derived.Test.YtdnjfjdhkmngjaaGreatDoorBA
import Derived.Test.YtdnjfjdhkmngjaaGreatDoorE
namespace Go.Proofs.YtdnjfjdhkmngjaaGreatDoor
open Go.RowKit

theorem texts_take_succ (bs : List Blk) (k : Nat) (h : k < bs.length) : baseL (texts (bs.take (k + 1))) = baseL (texts (bs.take k)) ++ textL bs[k].1 := by
  unfold baseL texts
  rw [List.take_succ_eq_append_getElem h, List.map_append, List.flatMap_append]; simp

set_option maxRecDepth 100000 in
set_option maxHeartbeats 2000000 in
theorem rsumOf_any (w : World) (v : Value) (bs : List Blk) (hv : w.ownsRow 0 173 2 v bs.length (rcells bs)) (hl : bs.length ≤ 16) (hsm : ∀ x ∈ bs, x.1.size ≤ 6) :
    Calls Tryz.prog 93 #[v] w fun e w' => e = .returned (.string (bstr (fnv4 (baseL (texts bs))))) ∧ Kept nothing w w' := by
  obtain ⟨sa, cap, rfl, hnc, hcm, hcells⟩ := owns_open hv
  unfold maxLen at hcm
  have Hsm : Hid (∀ x ∈ bs, x.1.size ≤ 6) := hsm
  clear hv hsm
  go_enter Tryz.func93, Tryz.ntmps93
  go_wp2
  go_loopw [3, 4] (fun s i wr => ∃ k : Nat, k ≤ bs.length ∧ i = .int .i64 k ∧ s = .string (bstr (baseL (texts (bs.take k)))) ∧ Kept nothing w wr) (fun _ i _ => bs.length - (intOf i).toNat)
  case atStart => exact ⟨0, Nat.zero_le _, rfl, rfl, Kept.refl _ _⟩
  case round =>
    obtain ⟨k, hk, rfl, rfl, hkp⟩ := hrel
    have hbl : (bstr (baseL (texts (bs.take k)))).size ≤ 112 := by
      have := baseL_len (texts (bs.take k)) (texts_small (fun x hx => Hsm.out x (List.mem_of_mem_take hx)))
      rw [texts_len, List.length_take] at this
      rw [bstr_size]; omega
    by_cases hlt : k < bs.length
    · obtain ⟨g, rfl, hg, hc⟩ := hcells (by omega)
      have hx : bs[k]? = some bs[k] := by simp
      have hc0 := (hkp.cell (p := ⟨g, k * 2, none⟩) hg (fun h => h)).trans (hc (k * 2) _ (pairs_get (fun b : Blk => .string b.1) (fun b => .int .i64 (b.2 : Int)) bs k _ hx).1)
      have htl := Hsm.out bs[k] (by simp)
      have Hs : Hid (bstr (baseL (texts (bs.take (k + 1)))) = bstr (baseL (texts (bs.take k))) ++ bstr [UInt8.ofNat bs[k].1.size] ++ bs[k].1) := by
        show _ = _
        rw [texts_take_succ bs k hlt, bstr_append]
        conv => rhs; rw [← bstr_data bs[k].1]
        rw [bstr_append, bstr_data]
        simp [textL]
      generalize bs[k].1 = t at hc0 htl Hs
      generalize bstr (baseL (texts (bs.take k))) = s at hbl Hs
      have hglt : g < wr.heap.size := Nat.lt_of_lt_of_le hg hkp.size
      have Hcall : Hid (∀ W : World, W.cell? ⟨g, k * 2, none⟩ = some (.string t) → Calls Tryz.prog 92 #[.int .i64 (t.size : Int)] W fun e w' => e = .returned (.string (bstr [UInt8.ofNat t.size])) ∧ Kept nothing W w' ∧ w'.cell? ⟨g, k * 2, none⟩ = some (.string t)) := by
        intro W hW
        refine (rone_any t.size W (by omega)).mono ?_
        rintro e w' ⟨rfl, hk'⟩
        exact ⟨rfl, hk', (hk'.cell (p := ⟨g, k * 2, none⟩) (World.block_lt_of_cell? W _ hW) (fun h => h)).trans hW⟩
      have ho1 : (bstr [UInt8.ofNat t.size]).size = 1 := rfl
      generalize bstr [UInt8.ofNat t.size] = o1 at Hs Hcall ho1
      have hadd : ¬ 9223372036854775807 < s.size + o1.size := by omega
      have hadd2 : ¬ 9223372036854775807 < s.size + o1.size + t.size := by omega
      clear hc hcells hx
      go_wp2
      go_region_with (go_at_call 92; refine (Hcall.out _ (by assumption)).mono ?_; rintro e w' ⟨rfl, hk2, hc2⟩)
      all_goals
        go_wp2
        go_roundw
        case rel => exact ⟨k + 1, by omega, by go_num, by rw [Hs.out], hkp.trans hk2.of_drew⟩
        case measure => simp [intOf]; omega
    · have Hke : Hid (bs.take k = bs) := by show _ = _; rw [List.take_of_length_le (by omega)]
      rw [Hke.out] at hbl ⊢
      have Hcall : Hid (∀ W, Calls Tryz.prog 94 #[.string (bstr (baseL (texts bs)))] W fun e w' => e = .returned (.string (bstr (fnv4 (baseL (texts bs))))) ∧ Kept nothing W w') := by
        intro W
        have h := rsum_any (bstr (baseL (texts bs))) W (by omega)
        rw [bstr_toList] at h
        exact h
      clear hcells Hke
      go_wp2_with (go_at_call 94; refine (Hcall.out _).mono ?_; rintro e w' ⟨rfl, hk2⟩)
      go_ret
      exact ⟨rfl, hkp.trans hk2⟩

/-- How long a stream's front is. -/
theorem headrec_len {head : List UInt8} {old new : List ByteArray} (h : ∀ t ∈ new, t.size ≤ 6) {k : Nat} (hk : k ≤ 16) (hh : head.length ≤ 8) : (bstr (head ++ recL old new k)).size ≤ 136 := by
  have := recL_len old new h k
  rw [bstr_size]
  simp only [List.length_append]; omega
theorem recL_step {old new : List ByteArray} {k : Nat} (hlt : k < new.length) (hlo : k < old.length) : recL old new (k + 1) = recL old new k ++ (if new[k] = old[k] then [] else UInt8.ofNat (k + 1) :: textL new[k]) := by
  show recL old new k ++ recOf old new k = _
  unfold recOf
  simp only [List.getElem?_eq_getElem hlt, List.getElem?_eq_getElem hlo, Option.getD_some]

set_option maxRecDepth 100000 in
set_option maxHeartbeats 2000000 in
theorem rSend_bad (a : Nat) (fr to : ByteArray) (w : World) (R : Vol) (vb vs : Value) (sv : List SV) (hR : RRep w a R vb vs sv) (hs1 : fr.size ≤ maxLen) (hs2 : to.size ≤ maxLen) (hbad : (sendF R fr to).2 ≠ 0) :
    Calls Tryz.prog 69 #[.pointer (some ⟨a, 0, none⟩), .string fr, .string to] w fun e w' => e = .returned (.tuple #[.string ⟨#[]⟩, .int .i64 (sendF R fr to).2]) ∧ w' = w := by
  have Hf1 : Hid (Calls Tryz.prog 90 #[.pointer (some ⟨a, 0, none⟩), .string fr] w fun e w' => e = .returned (.int .i64 (findF R.snaps fr)) ∧ w' = w) := by rw [hR.out]; exact rfind_any a fr w _ sv hR.c2 hR.snaps
  have Hf2 : Hid (Calls Tryz.prog 90 #[.pointer (some ⟨a, 0, none⟩), .string to] w fun e w' => e = .returned (.int .i64 (findF R.snaps to)) ∧ w' = w) := by rw [hR.out]; exact rfind_any a to w _ sv hR.c2 hR.snaps
  have Hn1 : Hid (Calls Tryz.prog 89 #[.string fr] w fun e w' => e = .returned (.bool (nameB fr)) ∧ w' = w) := rName_any fr w hs1
  have Hn2 : Hid (Calls Tryz.prog 89 #[.string to] w fun e w' => e = .returned (.bool (nameB to)) ∧ w' = w) := rName_any to w hs2
  clear hR
  by_cases h3 : nameB to = false ∨ (nameB fr = false ∧ fr ≠ ⟨#[]⟩)
  · have Hs : Hid ((sendF R fr to).2 = 3) := by show _ = _; rw [sendF, if_pos h3]
    rcases h3 with h | ⟨h, h'⟩
    · rw [h] at Hn2
      clear h hbad
      go_enter Tryz.func69, Tryz.ntmps69
      go_wp2_with fail
      refine Hn1.out.mono ?_
      rintro e w' ⟨rfl, rfl⟩
      generalize nameB fr = nf
      go_wp2_with (go_at_call 89; refine Hn2.out.mono ?_; rintro e w' ⟨rfl, rfl⟩)
      go_ret2
      exact ⟨ret2 rfl (by rw [Hs.out]; rfl), rfl⟩
    · have hE : fr.toList.isEmpty = false := by rw [str_empty]; simp [h']
      rw [h] at Hn1
      generalize nameB to = nt at Hn2
      clear h h' hbad
      cases nt
      all_goals
        go_enter Tryz.func69, Tryz.ntmps69
        go_wp2_with fail
        refine Hn1.out.mono ?_
        rintro e w' ⟨rfl, rfl⟩
        go_wp2_with (go_at_call 89; refine Hn2.out.mono ?_; rintro e w' ⟨rfl, rfl⟩)
        go_ret2
        exact ⟨ret2 rfl (by rw [Hs.out]; rfl), rfl⟩
  have ht : nameB to = true := by
    cases h : nameB to with
    | true => rfl
    | false => exact absurd (.inl h) h3
  rw [ht] at Hn2
  have Hs4 : Hid (findF R.snaps to < 0 ∨ (findF R.snaps fr < 0 ∧ fr ≠ ⟨#[]⟩) → (sendF R fr to).2 = 4) := by intro h; rw [sendF, if_neg h3, if_pos h]
  have Hs7 : Hid (¬ (findF R.snaps to < 0 ∨ (findF R.snaps fr < 0 ∧ fr ≠ ⟨#[]⟩)) → findF R.snaps to ≤ findF R.snaps fr → (sendF R fr to).2 = 7) := by intro h h'; rw [sendF, if_neg h3, if_neg h, if_pos h']
  have Hs0 : Hid (¬ (findF R.snaps to < 0 ∨ (findF R.snaps fr < 0 ∧ fr ≠ ⟨#[]⟩)) → ¬ findF R.snaps to ≤ findF R.snaps fr → (sendF R fr to).2 = 0) := by
    intro h h'; rw [sendF, if_neg h3, if_neg h, if_neg h']; split <;> rfl
  have hr1 := findF_range R.snaps fr
  have hr2 := findF_range R.snaps to
  have hl : R.snaps.length ≤ R.snaps.length := Nat.le_refl _
  clear ht
  generalize findF R.snaps fr = ff at Hf1 Hs4 Hs7 Hs0 hr1
  generalize findF R.snaps to = ft at Hf2 Hs4 Hs7 Hs0 hr2
  by_cases he : fr = ⟨#[]⟩
  · have hE : fr.toList.isEmpty = true := by rw [str_empty]; simp [he]
    have hnf : nameB fr = false := by rw [he]; rfl
    rw [hnf] at Hn1
    by_cases h4 : ft < 0
    · have Hs : Hid ((sendF R fr to).2 = 4) := Hs4.out (.inl h4)
      clear h3 he hnf hbad
      go_enter Tryz.func69, Tryz.ntmps69
      go_wp2_with fail
      refine Hn1.out.mono ?_
      rintro e w' ⟨rfl, rfl⟩
      go_wp2_with fail
      refine Hn2.out.mono ?_
      rintro e w' ⟨rfl, rfl⟩
      go_wp2_with fail
      refine Hf1.out.mono ?_
      rintro e w' ⟨rfl, rfl⟩
      go_wp2_with (go_at_call 90; refine Hf2.out.mono ?_; rintro e w' ⟨rfl, rfl⟩)
      go_ret2
      exact ⟨ret2 rfl (by rw [Hs.out]; rfl), rfl⟩
    · have hno : ¬ (ft < 0 ∨ (ff < 0 ∧ fr ≠ ⟨#[]⟩)) := by rintro (h | ⟨_, h⟩); exact h4 h; exact h he
      by_cases h7 : ft ≤ ff
      · have Hs : Hid ((sendF R fr to).2 = 7) := Hs7.out hno h7
        clear h3 he hnf hbad hno
        go_enter Tryz.func69, Tryz.ntmps69
        go_wp2_with fail
        refine Hn1.out.mono ?_
        rintro e w' ⟨rfl, rfl⟩
        go_wp2_with fail
        refine Hn2.out.mono ?_
        rintro e w' ⟨rfl, rfl⟩
        go_wp2_with fail
        refine Hf1.out.mono ?_
        rintro e w' ⟨rfl, rfl⟩
        go_wp2_with (go_at_call 90; refine Hf2.out.mono ?_; rintro e w' ⟨rfl, rfl⟩)
        go_ret2
        exact ⟨ret2 rfl (by rw [Hs.out]; rfl), rfl⟩
      · exact absurd (Hs0.out hno h7) hbad
  · have hE : fr.toList.isEmpty = false := by rw [str_empty]; simp [he]
    have hnf : nameB fr = true := by
      cases h : nameB fr with
      | true => rfl
      | false => exact absurd (.inr ⟨h, he⟩) h3
    rw [hnf] at Hn1
    by_cases h4 : ft < 0
    · have Hs : Hid ((sendF R fr to).2 = 4) := Hs4.out (.inl h4)
      clear h3 he hnf hbad
      go_enter Tryz.func69, Tryz.ntmps69
      go_wp2_with fail
      refine Hn1.out.mono ?_
      rintro e w' ⟨rfl, rfl⟩
      go_wp2_with fail
      refine Hn2.out.mono ?_
      rintro e w' ⟨rfl, rfl⟩
      go_wp2_with fail
      refine Hf1.out.mono ?_
      rintro e w' ⟨rfl, rfl⟩
      go_wp2_with (go_at_call 90; refine Hf2.out.mono ?_; rintro e w' ⟨rfl, rfl⟩)
      go_ret2
      exact ⟨ret2 rfl (by rw [Hs.out]; rfl), rfl⟩
    · by_cases h4' : ff < 0
      · have Hs : Hid ((sendF R fr to).2 = 4) := Hs4.out (.inr ⟨h4', he⟩)
        clear h3 he hnf hbad
        go_enter Tryz.func69, Tryz.ntmps69
        go_wp2_with fail
        refine Hn1.out.mono ?_
        rintro e w' ⟨rfl, rfl⟩
        go_wp2_with fail
        refine Hn2.out.mono ?_
        rintro e w' ⟨rfl, rfl⟩
        go_wp2_with fail
        refine Hf1.out.mono ?_
        rintro e w' ⟨rfl, rfl⟩
        go_wp2_with (go_at_call 90; refine Hf2.out.mono ?_; rintro e w' ⟨rfl, rfl⟩)
        go_ret2
        exact ⟨ret2 rfl (by rw [Hs.out]; rfl), rfl⟩
      · have hno : ¬ (ft < 0 ∨ (ff < 0 ∧ fr ≠ ⟨#[]⟩)) := by rintro (h | ⟨h, _⟩); exact h4 h; exact h4' h
        by_cases h7 : ft ≤ ff
        · have Hs : Hid ((sendF R fr to).2 = 7) := Hs7.out hno h7
          clear h3 he hnf hbad hno
          go_enter Tryz.func69, Tryz.ntmps69
          go_wp2_with fail
          refine Hn1.out.mono ?_
          rintro e w' ⟨rfl, rfl⟩
          go_wp2_with fail
          refine Hn2.out.mono ?_
          rintro e w' ⟨rfl, rfl⟩
          go_wp2_with fail
          refine Hf1.out.mono ?_
          rintro e w' ⟨rfl, rfl⟩
          go_wp2_with (go_at_call 90; refine Hf2.out.mono ?_; rintro e w' ⟨rfl, rfl⟩)
          go_ret2
          exact ⟨ret2 rfl (by rw [Hs.out]; rfl), rfl⟩
        · exact absurd (Hs0.out hno h7) hbad
end Go.Proofs.YtdnjfjdhkmngjaaGreatDoor
