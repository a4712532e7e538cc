import Derived.Test.YtdnjfjdhkmngjaaGreatDoorJ
import Derived.Test.YtdnjfjdhkmngjaaGreatDoorE
namespace Go.Proofs.YtdnjfjdhkmngjaaGreatDoor
open Go.RowKit

theorem refuse_hid {s : ByteArray} {code : Int} {w : World} (hc : code ≠ 0) : Hid (Calls Tryz.prog 30 #[.string s, .int .i64 code] w fun e w' => ∃ err, e = .returned err ∧ ErrRep w' err code ∧ Kept nothing w w') := refuse_any s code w hc

set_option maxHeartbeats 1000000 in
theorem pNew_bad (blocks pool : Int) (w : World) (h : ¬ (1 ≤ blocks ∧ blocks ≤ 16 ∧ 1 ≤ pool ∧ pool ≤ 40)) :
    Calls Tryz.prog 19 #[.int .i64 blocks, .int .i64 pool] w fun e w' => ∃ err, e = .returned (.tuple #[.pointer none, err]) ∧ ErrRep w' err 1 ∧ Kept nothing w w' := by
  by_cases h1 : blocks < 1
  · clear h
    go_enter Tryz.func19, Tryz.ntmps19
    go_wp2_with (go_at_call 30; refine (refuse_hid (by decide)).out.mono ?_; rintro e w' ⟨err, rfl, he, hk⟩)
    go_ret2
    exact ⟨_, rfl, he, hk⟩
  by_cases h2 : 16 < blocks
  · clear h
    go_enter Tryz.func19, Tryz.ntmps19
    go_wp2_with (go_at_call 30; refine (refuse_hid (by decide)).out.mono ?_; rintro e w' ⟨err, rfl, he, hk⟩)
    go_ret2
    exact ⟨_, rfl, he, hk⟩
  by_cases h3 : pool < 1
  · clear h
    go_enter Tryz.func19, Tryz.ntmps19
    go_wp2_with (go_at_call 30; refine (refuse_hid (by decide)).out.mono ?_; rintro e w' ⟨err, rfl, he, hk⟩)
    go_ret2
    exact ⟨_, rfl, he, hk⟩
  have h4 : 40 < pool := by omega
  clear h
  go_enter Tryz.func19, Tryz.ntmps19
  go_wp2_with (go_at_call 30; refine (refuse_hid (by decide)).out.mono ?_; rintro e w' ⟨err, rfl, he, hk⟩)
  go_ret2
  exact ⟨_, rfl, he, hk⟩

set_option maxHeartbeats 1000000 in
theorem pNew_ok (blocks pool : Nat) (w : World) (ι : Nat → Nat) (h1 : 1 ≤ blocks) (h2 : blocks ≤ 16) (h3 : 1 ≤ pool) (h4 : pool ≤ 40) :
    Calls Tryz.prog 19 #[.int .i64 blocks, .int .i64 pool] w fun e w' => ∃ b, e = .returned (.tuple #[.pointer (some ⟨b, 0, none⟩), .nilIface]) ∧ ∃ vn, w.heap.size ≤ b ∧ PRep w' b ι (newVol blocks pool) vn (.slice none 0 0) [] ∧ Kept nothing w w' := by
  go_enter Tryz.func19, Tryz.ntmps19
  go_wp2_with fail
  refine (cEmpty_any w blocks h2 ι).mono ?_
  rintro e w1 ⟨v, rfl, hT, hk1⟩
  obtain ⟨a, n, c, hv⟩ := tab_slice hT
  subst hv
  have HT : Hid (Tab w1 ι (.slice a n c) (List.replicate blocks (⟨#[]⟩, 0))) := hT
  clear hT
  go_wp2
  go_ret2
  refine ⟨w1.heap.size, rfl, .slice a n c, hk1.size, ?_, hk1.alloc _⟩
  have hT2 := HT.out.keptN ((Kept.refl nothing w1).alloc (.cells #[.int .i64 (pool : Int), .slice a n c, .slice none 0 0] 73))
  refine ⟨heap_alloc_new w1 _, hT2, World.ownsRow_nil _ _ _ _, rfl, by simp, ?_⟩
  intro x hx y hy h0
  simp [allIds, newVol] at hx
  exact absurd hx.2 h0

set_option maxHeartbeats 1000000 in
theorem pRead_any (b : Nat) (name : ByteArray) (block : Int) (w : World) (ι : Nat → Nat) (R : Vol) (vn vs : Value) (sv : List SV) (hP : PRep w b ι R vn vs sv) (hG : Good R) (hs : name.size ≤ maxLen) (hb1 : -9223372036854775808 ≤ block) (hb2 : block ≤ 9223372036854775807) :
    Calls Tryz.prog 39 #[.pointer (some ⟨b, 0, none⟩), .string name, .int .i64 block] w fun e w' => ∃ err, e = .returned (.tuple #[.string (readF R name block).1, err]) ∧ ErrRep w' err (readF R name block).2 ∧ Kept nothing w w' := by
  have HP : Hid (PRep w b ι R vn vs sv) := hP
  have HG : Hid (Good R) := hG
  have Hn : Hid (Calls Tryz.prog 29 #[.string name] w fun e w' => e = .returned (.bool (nameB name)) ∧ w' = w) := isName_any name w hs
  clear hP hG
  by_cases he : name = ⟨#[]⟩
  · have hE : name.toList.isEmpty = true := by rw [str_empty]; simp [he]
    have Hf : Hid (readF R name block = readB R.blocks block) := by show _ = _; rw [readF, if_pos he]
    have Hcall : Hid (Calls Tryz.prog 58 #[.pointer (some ⟨b, 0, none⟩), .string name] w fun e w' => e = .returned (.tuple #[.agg #[vn], .bool true]) ∧ Kept nothing w w') := blocksOf_now w b vn name he HP.out.c1 (tab_slice HP.out.now)
    have HT : Hid (Tab w ι vn R.blocks) := HP.out.now
    have hbl := HG.out.few
    generalize R.blocks = ts at Hf HT hbl
    obtain ⟨ta, tcap, hvt, htn, htm, _⟩ := owns_open HT.out.row
    subst hvt
    clear he
    by_cases hr : block < 0 ∨ (ts.length : Int) ≤ block
    · have Hf2 : Hid (readF R name block = (⟨#[]⟩, 1)) := by rw [Hf.out]; exact readB_no _ _ hr
      have hdec : (decide (0 ≤ block) && decide (block < ts.length)) = false := by
        rw [Bool.and_eq_false_iff]; simp; omega
      go_enter Tryz.func39, Tryz.ntmps39
      go_wp2_with (first | (go_at_call 29; refine Hn.out.mono ?_; rintro e w' ⟨rfl, rfl⟩) | (go_at_call 58; refine Hcall.out.mono ?_; rintro e w1 ⟨rfl, hk1⟩) | (go_at_call 50; refine (cHas_any _ _ _ _ _).mono ?_; rw [hdec]; rintro e w2 ⟨rfl, hk2⟩) | (go_at_call 30; refine (refuse_hid (by decide)).out.mono ?_; rintro e w3 ⟨err, rfl, he, hk⟩))
      go_ret2
      rw [Hf2.out]
      exact ⟨_, rfl, he, ((hk1.alloc _).trans hk2).trans hk⟩
    · obtain ⟨k, hk, hkb, hrd⟩ := readB_ok ts block (by omega) (by omega)
      subst hkb
      have Hf2 : Hid (readF R name k = (ts[k].1, 0)) := by rw [Hf.out]; exact hrd
      have hdec : (decide (0 ≤ (k : Int)) && decide ((k : Int) < ts.length)) = true := by
        rw [Bool.and_eq_true]; simp; omega
      clear hrd hr
      go_enter Tryz.func39, Tryz.ntmps39
      go_wp2_with (first | (go_at_call 29; refine Hn.out.mono ?_; rintro e w' ⟨rfl, rfl⟩) | (go_at_call 58; refine Hcall.out.mono ?_; rintro e w1 ⟨rfl, hk1⟩))
      refine (cHas_any _ _ _ _ _).mono ?_
      rw [hdec]
      rintro e w2 ⟨rfl, hk2⟩
      have hb := hk2.get (heap_alloc_new w1 _) (fun h => h)
      have hcb := blk_cell hb 0 rfl
      clear hb
      go_wp2_with (go_at_call 63; refine (cText_any _ ι _ ts k (HT.out.keptN ((hk1.alloc _).trans hk2)) hk hbl).mono ?_; rintro e w3 ⟨rfl, hk3⟩)
      go_ret2
      rw [Hf2.out]
      exact ⟨_, rfl, ErrRep.nil _, ((hk1.alloc _).trans hk2).trans hk3⟩

  · have hE : name.toList.isEmpty = false := by rw [str_empty]; simp [he]
    by_cases hnb : nameB name = false
    · have Hf2 : Hid (readF R name block = (⟨#[]⟩, 3)) := by show _ = _; rw [readF, if_neg he, if_pos hnb]
      rw [hnb] at Hn
      clear he hnb
      go_enter Tryz.func39, Tryz.ntmps39
      go_wp2_with (first | (go_at_call 29; refine Hn.out.mono ?_; rintro e w' ⟨rfl, rfl⟩) | (go_at_call 30; refine (refuse_hid (by decide)).out.mono ?_; rintro e w' ⟨err, rfl, he, hk⟩))
      go_ret2
      rw [Hf2.out]
      exact ⟨_, rfl, he, hk⟩
    · have hnb' : nameB name = true := by simpa using hnb
      rw [hnb'] at Hn
      have Hf0 : Hid (readF R name block = if findF (sv.map SV.out) name < 0 then (⟨#[]⟩, 4) else readB ((sv.map SV.out)[(findF (sv.map SV.out) name).toNat]?.getD (⟨#[]⟩, [])).2 block) := by
        show _ = _; rw [readF, if_neg he, if_neg hnb, HP.out.out]
      have hfr := findF_range (sv.map SV.out) name
      have Hcall0 := blocksOf_snap w b name vs sv he HP.out.c2 HP.out.snaps (fun t ht => tab_slice (HP.out.each t ht))
      clear he hnb hnb'
      generalize findF (sv.map SV.out) name = fd at Hf0 Hcall0 hfr
      simp only [List.length_map] at hfr
      by_cases hfd : fd < 0
      · have Hf2 : Hid (readF R name block = (⟨#[]⟩, 4)) := by rw [Hf0.out]; show _ = _; rw [if_pos hfd]
        have Hcall : Hid (Calls Tryz.prog 58 #[.pointer (some ⟨b, 0, none⟩), .string name] w fun e w' => e = .returned (.tuple #[.agg #[.slice none 0 0], .bool false]) ∧ Kept nothing w w') :=
          Hcall0.mono (fun e w' h => ⟨h.1 hfd, h.2.2⟩)
        clear Hcall0 Hf0
        go_enter Tryz.func39, Tryz.ntmps39
        go_wp2_with (first | (go_at_call 29; refine Hn.out.mono ?_; rintro e w' ⟨rfl, rfl⟩) | (go_at_call 58; refine Hcall.out.mono ?_; rintro e w1 ⟨rfl, hk1⟩) | (go_at_call 30; refine (refuse_hid (by decide)).out.mono ?_; rintro e w2 ⟨err, rfl, he, hk⟩))
        go_ret2
        rw [Hf2.out]
        exact ⟨_, rfl, he, (hk1.alloc _).trans hk⟩
      · obtain ⟨q, rfl⟩ := Int.eq_ofNat_of_zero_le (show 0 ≤ fd by omega)
        have hq : q < sv.length := by omega
        have Hf : Hid (readF R name block = readB sv[q].2.2 block) := by rw [Hf0.out]; show _ = _; rw [if_neg hfd]; simp [hq, SV.out]
        have Hcall : Hid (Calls Tryz.prog 58 #[.pointer (some ⟨b, 0, none⟩), .string name] w fun e w' => e = .returned (.tuple #[.agg #[sv[q].2.1], .bool true]) ∧ Kept nothing w w') :=
          Hcall0.mono (fun e w' h => ⟨h.2.1 q hq rfl, h.2.2⟩)
        have HT : Hid (Tab w ι sv[q].2.1 sv[q].2.2) := HP.out.each sv[q] (by simp)
        have hbl : sv[q].2.2.length ≤ 16 := by
          have := HG.out.lens (SV.out sv[q]) (by rw [HP.out.out]; exact List.mem_map_of_mem (by simp))
          have h2 := HG.out.few
          simp only [SV.out] at this; omega
        generalize sv[q].2.2 = ts at Hf HT hbl
        generalize sv[q].2.1 = tv at Hcall HT
        obtain ⟨ta, tcap, hvt, htn, htm, _⟩ := owns_open HT.out.row
        subst hvt
        clear Hcall0 Hf0 hfd
        by_cases hr : block < 0 ∨ (ts.length : Int) ≤ block
        · have Hf2 : Hid (readF R name block = (⟨#[]⟩, 1)) := by rw [Hf.out]; exact readB_no _ _ hr
          have hdec : (decide (0 ≤ block) && decide (block < ts.length)) = false := by
            rw [Bool.and_eq_false_iff]; simp; omega
          go_enter Tryz.func39, Tryz.ntmps39
          go_wp2_with (first | (go_at_call 29; refine Hn.out.mono ?_; rintro e w' ⟨rfl, rfl⟩) | (go_at_call 58; refine Hcall.out.mono ?_; rintro e w1 ⟨rfl, hk1⟩) | (go_at_call 50; refine (cHas_any _ _ _ _ _).mono ?_; rw [hdec]; rintro e w2 ⟨rfl, hk2⟩) | (go_at_call 30; refine (refuse_hid (by decide)).out.mono ?_; rintro e w3 ⟨err, rfl, he, hk⟩))
          go_ret2
          rw [Hf2.out]
          exact ⟨_, rfl, he, ((hk1.alloc _).trans hk2).trans hk⟩
        · obtain ⟨k, hk, hkb, hrd⟩ := readB_ok ts block (by omega) (by omega)
          subst hkb
          have Hf2 : Hid (readF R name k = (ts[k].1, 0)) := by rw [Hf.out]; exact hrd
          have hdec : (decide (0 ≤ (k : Int)) && decide ((k : Int) < ts.length)) = true := by
            rw [Bool.and_eq_true]; simp; omega
          clear hrd hr
          go_enter Tryz.func39, Tryz.ntmps39
          go_wp2_with (first | (go_at_call 29; refine Hn.out.mono ?_; rintro e w' ⟨rfl, rfl⟩) | (go_at_call 58; refine Hcall.out.mono ?_; rintro e w1 ⟨rfl, hk1⟩))
          refine (cHas_any _ _ _ _ _).mono ?_
          rw [hdec]
          rintro e w2 ⟨rfl, hk2⟩
          have hb := hk2.get (heap_alloc_new w1 _) (fun h => h)
          have hcb := blk_cell hb 0 rfl
          clear hb
          go_wp2_with (go_at_call 63; refine (cText_any _ ι _ ts k (HT.out.keptN ((hk1.alloc _).trans hk2)) hk hbl).mono ?_; rintro e w3 ⟨rfl, hk3⟩)
          go_ret2
          rw [Hf2.out]
          exact ⟨_, rfl, ErrRep.nil _, ((hk1.alloc _).trans hk2).trans hk3⟩

end Go.Proofs.YtdnjfjdhkmngjaaGreatDoor
