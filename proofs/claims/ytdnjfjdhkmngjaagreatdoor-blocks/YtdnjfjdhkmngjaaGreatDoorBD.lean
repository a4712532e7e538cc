import Derived.Test.YtdnjfjdhkmngjaaGreatDoorBC
namespace Go.Proofs.YtdnjfjdhkmngjaaGreatDoor
open Go.RowKit

set_option maxRecDepth 100000 in
set_option maxHeartbeats 4000000 in
theorem rSend_since (a : Nat) (fr to : ByteArray) (w : World) (R : Vol) (vb vs : Value) (sv : List SV) (hR : RRep w a R vb vs sv) (hG : Good R) (hs1 : fr.size ≤ maxLen) (hs2 : to.size ≤ maxLen) (he : fr ≠ ⟨#[]⟩) (hfr : nameB fr = true) (hto : nameB to = true) (hff : 0 ≤ findF R.snaps fr) (hft : findF R.snaps fr < findF R.snaps to) :
    Calls Tryz.prog 69 #[.pointer (some ⟨a, 0, none⟩), .string fr, .string to] w fun e w' => e = .returned (.tuple #[.string (bstr (sinceL (texts (snapOf R fr)) (texts (snapOf R to)))), .int .i64 0]) ∧ Kept nothing w w' := by
  have hsm0 := (snapOf_good hG to (by omega)).2
  have hlen0 := (snapOf_good hG to (by omega)).1
  have hfew := hG.few
  have hsome := hG.some
  have hr2 := findF_range R.snaps to
  obtain ⟨qt, hqt⟩ := Int.eq_ofNat_of_zero_le (show 0 ≤ findF R.snaps to by omega)
  have hsl : R.snaps.length = sv.length := by rw [hR.out]; simp
  have hsl6 : sv.length ≤ 6 := by have := hG.snaps; omega
  have hqtl : qt < sv.length := by omega
  obtain ⟨gs, scap, hvs, _, hgs, hsn, hscm⟩ := owns_parts hR.snaps (by omega)
  subst hvs
  obtain ⟨ba, bcap, hvb, hbn, hbm, _⟩ := owns_open hR.blocks
  subst hvb
  unfold maxLen at hbm
  have hv1 := hR.c1
  have hv2 := hR.c2
  have halt := hR.lt
  have hxq : sv[qt]? = some sv[qt] := by simp
  have hcq := owns_cell hR.snaps (pairs_get (fun t : SV => .string t.1) (fun t => t.2.1) sv qt _ hxq).2
  have hev := hR.each sv[qt] (by simp)
  have hsnap : snapOf R to = sv[qt].2.2 := by unfold snapOf; rw [hqt, hR.out]; simp [hqtl, SV.out]
  have Hfin0 := Hid.mk' (show finishL (sinceHead (texts (snapOf R to)).length (texts (snapOf R fr))) (texts (snapOf R fr)) (texts (snapOf R to)) = sinceL (texts (snapOf R fr)) (texts (snapOf R to)) from rfl)
  rw [hsnap] at hsm0 hlen0 Hfin0
  generalize sv[qt].2.2 = nbs at hev hsm0 hlen0 Hfin0 hsnap
  generalize sv[qt].2.1 = tv at hcq hev
  obtain ⟨gn, tcap, htv, _, hgn, htn, htm⟩ := owns_parts hev (by omega)
  subst htv
  have Hcn0 : Hid (∀ j u, (rcells nbs)[j]? = some u → w.cell? ⟨gn, j, none⟩ = some u) := fun j u hu => owns_cell hev hu
  have Hsm : Hid (∀ t ∈ texts nbs, t.size ≤ 6) := texts_small hsm0
  have HR : Hid (RRep w a R (.slice ba R.blocks.length bcap) (.slice (some ⟨gs, 0, none⟩) sv.length scap) sv) := hR
  have HG : Hid (Good R) := hG
  obtain ⟨qf, hqf⟩ := Int.eq_ofNat_of_zero_le hff
  have Hf1 : Hid (∀ W, Kept nothing w W → Calls Tryz.prog 90 #[.pointer (some ⟨a, 0, none⟩), .string fr] W fun e w' => e = .returned (.int .i64 qf) ∧ w' = W) := by
    intro W hW
    have h := HR.out.kept hW (fun h => h) (fun _ _ h => h) (fun _ _ _ h => h)
    rw [← hqf, HR.out.out]; exact rfind_any a fr W _ sv h.c2 h.snaps
  have Hf2 : Hid (Calls Tryz.prog 90 #[.pointer (some ⟨a, 0, none⟩), .string to] w fun e w' => e = .returned (.int .i64 qt) ∧ w' = w) := by
    rw [← hqt, HR.out.out]; exact rfind_any a to w _ sv HR.out.c2 HR.out.snaps
  have Hn1 : Hid (Calls Tryz.prog 89 #[.string fr] w fun e w' => e = .returned (.bool true) ∧ w' = w) := by rw [← hfr]; exact rName_any fr w hs1
  have Hn2 : Hid (Calls Tryz.prog 89 #[.string to] w fun e w' => e = .returned (.bool true) ∧ w' = w) := by rw [← hto]; exact rName_any to w hs2
  have hE : fr.toList.isEmpty = false := by rw [str_empty]; simp [he]
  have hqfl : qf < sv.length := by omega
  have hqft : (qf : Int) < (qt : Int) := by omega
  have hxf : sv[qf]? = some sv[qf] := by simp
  have hcf := owns_cell hR.snaps (pairs_get (fun t : SV => .string t.1) (fun t => t.2.1) sv qf _ hxf).2
  have hef := hR.each sv[qf] (by simp)
  have hsnapf : snapOf R fr = sv[qf].2.2 := by unfold snapOf; rw [hqf, hR.out]; simp [hqfl, SV.out]
  have hsmf := (snapOf_good hG fr hff).2
  have hlenf := (snapOf_good hG fr hff).1
  rw [hsnapf] at hsmf hlenf Hfin0
  generalize sv[qf].2.2 = obs at hef hsmf hlenf Hfin0 hsnapf
  generalize sv[qf].2.1 = fv at hcf hef
  obtain ⟨gb, fcap, hfv, _, hgb, hfn, hfm⟩ := owns_parts hef (by omega)
  subst hfv
  have Hco0 : Hid (∀ j u, (rcells obs)[j]? = some u → w.cell? ⟨gb, j, none⟩ = some u) := fun j u hu => owns_cell hef hu
  have Hol : Hid (obs.length = nbs.length) := by show _ = _; rw [hlenf, hlen0]
  have Hsum0 : Hid (∀ W, Kept nothing w W → Calls Tryz.prog 93 #[.slice (some ⟨gb, 0, none⟩) obs.length fcap] W fun e w' => e = .returned (.string (bstr (fnv4 (baseL (texts obs))))) ∧ Kept nothing W w') :=
    fun W hW => rsumOf_any W _ obs (owns_kept hef hW (fun _ _ h => h)) (by omega) hsmf
  have Hone := Hid.mk' (one_call R.blocks.length (by omega) (R.blocks.length : Int) rfl)
  have Hz1 := Hid.mk' (one_call 1 (by omega) 1 rfl)
  have u1 : (bstr [UInt8.ofNat R.blocks.length]).size = 1 := rfl
  have u0 : (bstr [UInt8.ofNat 1]).size = 1 := rfl
  have u4 : (bstr (fnv4 (baseL (texts obs)))).size = 4 := by rw [bstr_size]; rfl
  have Hhead : Hid ((⟨#[77, 49]⟩ : ByteArray) ++ bstr [UInt8.ofNat R.blocks.length] ++ bstr [UInt8.ofNat 1] ++ bstr (fnv4 (baseL (texts obs))) = bstr (sinceHead R.blocks.length (texts obs))) := by
    show (bstr [77, 49]) ++ bstr [UInt8.ofNat R.blocks.length] ++ bstr [UInt8.ofNat 1] ++ bstr (fnv4 (baseL (texts obs))) = _
    rw [bstr_append, bstr_append, bstr_append]; rfl
  have Hsnap := Hid.mk' hsnap
  have Hsnapf := Hid.mk' hsnapf
  obtain ⟨head, hheadE⟩ : ∃ head, head = sinceHead R.blocks.length (texts obs) := ⟨_, rfl⟩
  rw [← hheadE] at Hhead
  have Hhl : Hid (head.length ≤ 8) := by rw [hheadE]; exact Nat.le_refl 8
  have Hfin : Hid (bstr (finishL head (texts obs) (texts nbs)) = bstr (sinceL (texts (snapOf R fr)) (texts (snapOf R to)))) := by show _ = _; rw [hheadE, ← hlen0, Hsnap.out, Hsnapf.out, ← Hfin0.out, texts_len]
  clear hR hG hev hsm0 hxq he hsnap hto hfr hef hsmf hxf hsnapf hheadE Hfin0 hlenf
  generalize bstr [UInt8.ofNat R.blocks.length] = ob at Hone u1 Hhead
  generalize bstr [UInt8.ofNat 1] = oz at Hz1 u0 Hhead
  generalize bstr (fnv4 (baseL (texts obs))) = os at Hsum0 u4 Hhead
  have q1 : ¬ 9223372036854775807 < 2 + 1 := by omega
  have q2 : ¬ 9223372036854775807 < 2 + 1 + 1 := by omega
  have q3 : ¬ 9223372036854775807 < 2 + 1 + 1 + 4 := by omega
  go_enter Tryz.func69, Tryz.ntmps69
  go_wp2_with fail
  refine Hn1.out.mono ?_
  rintro e w' ⟨rfl, rfl⟩
  go_wp2_with fail
  refine Hn2.out.mono ?_
  rintro e w' ⟨rfl, rfl⟩
  go_wp2_with fail
  refine (Hf1.out _ (Kept.refl _ _)).mono ?_
  rintro e w' ⟨rfl, rfl⟩
  go_wp2_with fail
  refine Hf2.out.mono ?_
  rintro e w' ⟨rfl, rfl⟩
  go_wp2_with (at_make; refine wp_make_rblocks _ rfl _ _ rfl R.blocks.length rfl rfl hfew ?_)
  intro wm hom hkm
  clear hom
  have hm1 := (hkm.cell (p := ⟨a, 1, none⟩) halt (fun h => h)).trans hv1
  have haltm : a < wm.heap.size := Nat.lt_of_lt_of_le halt hkm.size
  go_wp2_with fail
  refine (Hone.out _).mono ?_
  rintro e wn ⟨rfl, hkn⟩
  have hk0n := hkm.trans hkn
  have hn2 := (hk0n.cell (p := ⟨a, 2, none⟩) halt (fun h => h)).trans hv2
  have hnf := (hk0n.cell (p := ⟨gs, qf * 2 + 1, none⟩) hgs (fun h => h)).trans hcf
  have haltn : a < wn.heap.size := Nat.lt_of_lt_of_le halt hk0n.size
  have hgsn : gs < wn.heap.size := Nat.lt_of_lt_of_le hgs hk0n.size
  go_wp2_with fail
  refine (Hz1.out _).mono ?_
  rintro e wo ⟨rfl, hko⟩
  go_wp2_with fail
  refine (Hsum0.out _ (hk0n.trans hko)).mono ?_
  rintro e w1 ⟨rfl, hk1⟩
  have hk01 : Kept nothing w' w1 := (hk0n.trans hko).trans hk1
  have ebl : gb < w1.heap.size := Nat.lt_of_lt_of_le hgb hk01.size
  have Hco : Hid (∀ j u, (rcells obs)[j]? = some u → w1.cell? ⟨gb, j, none⟩ = some u) := fun j u hu => (hk01.cell (p := ⟨gb, j, none⟩) hgb (fun h => h)).trans (Hco0.out j u hu)
  have Hcn : Hid (∀ j u, (rcells nbs)[j]? = some u → w1.cell? ⟨gn, j, none⟩ = some u) := fun j u hu => (hk01.cell (p := ⟨gn, j, none⟩) hgn (fun h => h)).trans (Hcn0.out j u hu)
  have e2 := (hk01.cell (p := ⟨a, 2, none⟩) halt (fun h => h)).trans hv2
  have e2l : a < w1.heap.size := Nat.lt_of_lt_of_le halt hk01.size
  have eq := (hk01.cell (p := ⟨gs, qt * 2 + 1, none⟩) hgs (fun h => h)).trans hcq
  have eql : gs < w1.heap.size := Nat.lt_of_lt_of_le hgs hk01.size
  have egl : gn < w1.heap.size := Nat.lt_of_lt_of_le hgn hk01.size
  rw [Hol.out]
  rw [Hol.out] at hfn
  clear hm1 haltm hv1 hv2 hcq hcf hn2 hnf haltn hgsn
  go_wp2

  go_loopw [13, 14] (fun s i wr => ∃ k : Nat, k ≤ nbs.length ∧ i = .int .i64 k ∧ s = .string (bstr (head ++ recL (texts obs) (texts nbs) k)) ∧ Kept nothing w1 wr) (fun _ i _ => nbs.length - (intOf i).toNat)
  case atStart => exact ⟨0, Nat.zero_le _, rfl, by rw [Hhead.out]; simp [recL], Kept.refl _ _⟩
  case round =>
    obtain ⟨k, hk, rfl, rfl, hkp⟩ := hrel
    have hk16 : k ≤ 16 := by omega
    have hSl := headrec_len (head := head) (old := texts obs) Hsm.out hk16 Hhl.out
    have d2 := (hkp.cell (p := ⟨a, 2, none⟩) e2l (fun h => h)).trans e2
    have dq := (hkp.cell (p := ⟨gs, qt * 2 + 1, none⟩) eql (fun h => h)).trans eq
    by_cases hlt : k < nbs.length
    · have hlo : k < obs.length := by rw [Hol.out]; exact hlt
      have hxn : nbs[k]? = some nbs[k] := by simp
      have hxo : obs[k]? = some obs[k] := by simp
      have dn := (hkp.cell (p := ⟨gn, k * 2, none⟩) egl (fun h => h)).trans (Hcn.out (k * 2) _ (pairs_get (fun b : Blk => .string b.1) (fun b => .int .i64 (b.2 : Int)) nbs k _ hxn).1)
      have dob := (hkp.cell (p := ⟨gb, k * 2, none⟩) ebl (fun h => h)).trans (Hco.out (k * 2) _ (pairs_get (fun b : Blk => .string b.1) (fun b => .int .i64 (b.2 : Int)) obs k _ hxo).1)
      have hln : k < (texts nbs).length := by rw [texts_len]; exact hlt
      have hlob : k < (texts obs).length := by rw [texts_len]; exact hlo
      have hen : (texts nbs)[k] = nbs[k].1 := by simp [texts]
      have heo : (texts obs)[k] = obs[k].1 := by simp [texts]
      have htl := Hsm.out nbs[k].1 (by rw [← hen]; exact List.getElem_mem _)
      have Hyes : Hid (nbs[k].1 = obs[k].1 → bstr (head ++ recL (texts obs) (texts nbs) (k + 1)) = bstr (head ++ recL (texts obs) (texts nbs) k)) := rec_same hln hlob hen heo
      have Hno : Hid (nbs[k].1 ≠ obs[k].1 → bstr (head ++ recL (texts obs) (texts nbs) (k + 1)) = bstr (head ++ recL (texts obs) (texts nbs) k) ++ bstr [UInt8.ofNat (k + 1)] ++ bstr [UInt8.ofNat nbs[k].1.size] ++ nbs[k].1) := rec_next hln hlob hen heo
      clear hen heo hln hlob hxn hxo
      generalize nbs[k].1 = tn at dn htl Hyes Hno
      generalize obs[k].1 = to at dob Hyes Hno
      generalize bstr (head ++ recL (texts obs) (texts nbs) k) = s at hSl Hyes Hno
      have b0 : (0 : Int) ≤ (k : Int) := by omega
      have b1 : (k : Int) < (nbs.length : Int) := by omega
      by_cases he : tn = to
      · have hE := str_yes he
        have Hr := Hid.mk' (Hyes.out he)
        clear he Hyes Hno
        go_wp2
        go_roundw
        case rel => exact ⟨k + 1, by omega, by go_num, by rw [Hr.out], hkp⟩
        case measure => simp [intOf]; omega
      · have hE := str_no he
        have Hr := Hid.mk' (Hno.out he)
        have Hc1 := Hid.mk' (one_call (k + 1) (by omega) ((k : Int) + 1) (by omega))
        have Hc2 := Hid.mk' (one_call tn.size (by omega) (tn.size : Int) rfl)
        have z1 : (bstr [UInt8.ofNat (k + 1)]).size = 1 := rfl
        have z2 : (bstr [UInt8.ofNat tn.size]).size = 1 := rfl
        clear he Hyes Hno
        generalize bstr [UInt8.ofNat (k + 1)] = o1 at Hr Hc1 z1
        generalize bstr [UInt8.ofNat tn.size] = o2 at Hr Hc2 z2
        have y1 : ¬ 9223372036854775807 < s.size + 1 := by omega
        have y2 : ¬ 9223372036854775807 < s.size + 1 + 1 := by omega
        have y3 : ¬ 9223372036854775807 < s.size + 1 + 1 + tn.size := by omega
        go_wp2_with fail
        refine (Hc1.out _).mono ?_
        rintro e w2 ⟨rfl, hk2⟩
        go_wp2_with (go_at_call 92; refine (Hc2.out _).mono ?_; rintro e w3 ⟨rfl, hk3⟩)
        go_roundw
        case rel => exact ⟨k + 1, by omega, by go_num, by rw [Hr.out], (hkp.trans hk2).trans hk3⟩
        case measure => simp [intOf]; omega
    · have hke : k = (texts nbs).length := by rw [texts_len]; omega
      have Hb := Hid.mk' (send_end head (texts obs) (texts nbs) k hke)
      have Hz := Hid.mk' (one_call 0 (by omega) 0 rfl)
      have hbl := bodyL_len head (texts obs) (texts nbs) Hsm.out
      rw [texts_len] at hbl
      have hhl := Hhl.out
      have Hsum := Hid.mk' (sum_call (bodyL head (texts obs) (texts nbs)) (by omega))
      have Hall := Hid.mk' (send_all head (texts obs) (texts nbs))
      have x0 : (bstr [UInt8.ofNat 0]).size = 1 := rfl
      have hb0 : (bstr [0]) = bstr [UInt8.ofNat 0] := rfl
      rw [hb0] at Hb
      have x1 : (bstr (bodyL head (texts obs) (texts nbs))).size ≤ 137 := by rw [bstr_size]; omega
      have x2 : (bstr (fnv4 (bodyL head (texts obs) (texts nbs)))).size = 4 := by rw [bstr_size]; rfl
      clear hke hbl hb0 hhl
      generalize bstr (head ++ recL (texts obs) (texts nbs) k) = s at hSl Hb
      generalize bstr [UInt8.ofNat 0] = o0 at Hb Hz x0
      generalize bstr (fnv4 (bodyL head (texts obs) (texts nbs))) = sm at Hsum Hall x2
      generalize bstr (bodyL head (texts obs) (texts nbs)) = bd at Hb Hsum Hall x1
      have y1 : ¬ 9223372036854775807 < s.size + 1 := by omega
      have y2 : ¬ 9223372036854775807 < bd.size + 4 := by omega
      go_wp2_with fail
      refine (Hz.out _).mono ?_
      rintro e w2 ⟨rfl, hk2⟩
      have hb := Hb.out
      go_wp2_with fail
      clear hb
      refine (Hsum.out _).mono ?_
      rintro e w3 ⟨rfl, hk3⟩
      go_wp2
      go_ret2
      exact ⟨ret2 (congrArg Value.string (Hall.out.trans Hfin.out)) rfl, hk01.trans ((hkp.trans hk2).trans hk3)⟩
end Go.Proofs.YtdnjfjdhkmngjaaGreatDoor
