import Derived.Test.YtdnjfjdhkmngjaaGreatDoorY3
import Derived.Test.YtdnjfjdhkmngjaaGreatDoorU
import Derived.Test.YtdnjfjdhkmngjaaGreatDoorA
import Derived.Test.YtdnjfjdhkmngjaaGreatDoorY5
import Derived.Test.YtdnjfjdhkmngjaaGreatDoorYC
namespace Go.Proofs.YtdnjfjdhkmngjaaGreatDoor
open Go.RowKit

theorem prcells_get (ps : List PS) (q : Nat) (p : PS) (h : ps[q]? = some p) : (prcells ps)[q * 2]? = some (.pointer (some ⟨p.b, 0, none⟩)) ∧ (prcells ps)[q * 2 + 1]? = some (.pointer (some ⟨p.a, 0, none⟩)) :=
  pairs_get (fun p : PS => .pointer (some ⟨p.b, 0, none⟩)) (fun p => .pointer (some ⟨p.a, 0, none⟩)) ps q p h

/-- What one step comes to. -/
def StepPost (W0 : World) (bw L : Nat) (S : Snd) (ps : List PS) (ns : List Value) (o : OpV) (w' : World) : Prop :=
  ∃ S' vl' vnm' ps' ns', Wis W0 w' bw S' (L + 1) vl' vnm' ps' ns' ∧ ps.length ≤ ps'.length ∧ ps'.length ≤ ps.length + 1 ∧ ns'.length ≤ ns.length + 4 ∧ S'.l.length ≤ S.l.length + 1 ∧ (o.kind = 1 → (1 ≤ o.a ∧ o.a ≤ 16 ∧ 1 ≤ o.b ∧ o.b ≤ 40) → 0 < ps'.length)

set_option maxRecDepth 100000 in
set_option maxHeartbeats 4000000 in
theorem step_any (W0 w : World) (bw L : Nat) (vl vnm : Value) (ps : List PS) (ns : List Value) {S : Snd} (hW : Wis W0 w bw S L vl vnm ps ns) (hL : L ≤ 1759218604400) (hN : ns.length ≤ 7036874417600) (hP : ps.length ≤ 1759218604400) (hSl : S.l.length ≤ 1759218604400) (o : OpV) (ho : o.Ok) (h9 : o.kind ≤ 9) :
    Calls Tryz.prog 16 #[.pointer (some ⟨bw, 0, none⟩), .agg o.cells] w fun e w' => e = .returned (.bool true) ∧ StepPost W0 bw L S ps ns o w' := by
  have HW : Hid (Wis W0 w bw S L vl vnm ps ns) := hW
  have Ho : Hid o.Ok := ho
  have hc0 : w.cell? ⟨bw, 0, none⟩ = some vl := blk_cell hW.world 0 rfl
  have hlt := blk_lt hW.world
  obtain ⟨la, lcap, hvl, hln, hlm, hlc⟩ := owns_open (owns_weaken hW.pairs)
  subst hvl
  unfold maxLen at hlm
  have Hlc : Hid (0 < ps.length → ∃ g, la = some ⟨g, 0, none⟩ ∧ g < w.heap.size ∧ ∀ j u, (prcells ps)[j]? = some u → w.cell? ⟨g, j, none⟩ = some u) := hlc
  clear hW ho hlc
  by_cases hk1 : o.kind = 1
  · have HK : Hid (o.kind = 1) := hk1
    obtain ⟨kind, on, oa, ob, os, ot, ou⟩ := o
    simp only at hk1 h9
    subst hk1
    simp only [OpV.cells]
    have hka := (Kept.refl nothing w).alloc (.cells #[.int .i64 1, .int .i64 on, .int .i64 oa, .int .i64 ob, .string os, .string ot, .string ou] 56)
    have Hcall : Hid (Calls Tryz.prog 40 #[.pointer (some ⟨bw, 0, none⟩), .int .i64 oa, .int .i64 ob] (w.alloc (.cells #[.int .i64 1, .int .i64 on, .int .i64 oa, .int .i64 ob, .string os, .string ot, .string ou] 56)) fun e w' => e = .returned (.bool true) ∧ StepPost W0 bw L S ps ns ⟨1, on, oa, ob, os, ot, ou⟩ w') := by
      refine (begins_any W0 _ bw L _ vnm ps ns (HW.out.keptN hka) hP oa ob).mono ?_
      rintro e w' ⟨rfl, vl', ps', hW', h1, h2, h3⟩
      exact ⟨rfl, S, vl', vnm, ps', ns, hW'.mono (by omega), h1, h2, by omega, by omega, fun _ h => by have := h3 h; omega⟩
    clear hka
    go_enter Tryz.func16, Tryz.ntmps16
    go_wp2_with (go_at_call 40; refine Hcall.out.mono ?_; rintro e w' ⟨rfl, hres⟩)
    go_ret
    exact ⟨rfl, hres⟩
  have HK : Hid (o.kind ≠ 1) := hk1
  have kb1 : (o.kind == 1) = false := by simpa using hk1
  by_cases hk9 : o.kind = 9
  · have HK9 : Hid (o.kind = 9) := hk9
    have Hcall : Hid (∀ w1, Kept nothing w w1 → Calls Tryz.prog 41 #[.pointer (some ⟨bw, 0, none⟩), .agg o.cells] w1 fun e w' => e = .returned (.bool true) ∧ StepPost W0 bw L S ps ns o w') := by
      intro w1 hk
      refine (nexted_any W0 w1 bw L _ vnm ps ns (HW.out.keptN hk) hSl o Ho.out).mono ?_
      rintro e w' ⟨rfl, S', hW', hl'⟩
      exact ⟨rfl, S', _, vnm, ps, ns, hW'.mono (by omega), Nat.le_refl _, by omega, by omega, by omega, fun h => absurd h HK.out⟩
    have hka := Hid.mk' ((Kept.refl nothing w).alloc (.cells o.cells 56))
    obtain ⟨kind, on, oa, ob, os, ot, ou⟩ := o
    simp only at kb1 hk9 h9
    subst hk9
    simp only [OpV.cells] at hka Hcall ⊢
    clear hk1 kb1
    go_enter Tryz.func16, Tryz.ntmps16
    go_wp2_with (go_at_call 41; refine (Hcall.out _ hka.out).mono ?_; rintro e w' ⟨rfl, hres⟩)
    go_ret
    exact ⟨rfl, hres⟩
  have kb9 : (o.kind == 9) = false := by simpa using hk9
  by_cases hps : ps.length = 0
  · have HF : Hid (∀ ob : Obj, StepPost W0 bw L S ps ns o (w.alloc ob)) := fun ob => ⟨S, _, vnm, ps, ns, (HW.out.keptN ((Kept.refl nothing w).alloc ob)).mono (by omega), Nat.le_refl _, by omega, by omega, by omega, fun h => absurd h HK.out⟩
    have hz : ((ps.length : Int) == 0) = true := by simp [hps]
    obtain ⟨kind, on, oa, ob, os, ot, ou⟩ := o
    simp only at kb1 kb9 h9
    simp only [OpV.cells]
    clear hk1 hps hk9
    go_enter Tryz.func16, Tryz.ntmps16
    go_wp2
    go_ret
    exact ⟨rfl, HF.out _⟩
  obtain ⟨g, hla, hg, hcs⟩ := Hlc.out (by omega)
  subst hla
  have hpk := pickF_lt o.on (ps.length : Int) (by omega)
  obtain ⟨q, hq⟩ := Int.eq_ofNat_of_zero_le hpk.1
  have hql : q < ps.length := by omega
  have hxq : ps[q]? = some ps[q] := by simp
  have hpg := prcells_get ps q ps[q] hxq
  have d0 := hcs (q * 2) _ hpg.1
  have d1 := hcs (q * 2 + 1) _ hpg.2
  have HI : Hid (ps[q]? = some ps[q]) := hxq
  have Hpick : Hid (∀ W : World, Calls Tryz.prog 42 #[.int .i64 o.on, .int .i64 ps.length] W fun e w' => e = .returned (.int .i64 q) ∧ w' = W) := by
    intro W
    have := pick_any o.on ps.length W Ho.out.on1 Ho.out.on2 (by omega) (by omega)
    rw [hq] at this
    exact this
  have hz : ((ps.length : Int) == 0) = false := by rw [beq_eq_false_iff_ne]; omega
  have b0 : (0 : Int) ≤ (q : Int) := by omega
  have b1 : (q : Int) < (ps.length : Int) := by omega
  have hO := HW.out.ok ps[q] (by simp)
  have HM : Hid (ps[q] ∈ ps) := by show _ ∈ _; simp
  generalize ps[q] = p at d0 d1 HI hO HM
  clear hpk hq hcs hpg hxq hO hk1 hps
  have HWB : Hid (∀ w1, Kept nothing w w1 → ∀ e w', (e = Ending.returned (.bool true) ∧ Kept nothing w1 w') → e = Ending.returned (.bool true) ∧ StepPost W0 bw L S ps ns o w') := by
    rintro w1 hk e w' ⟨rfl, hk'⟩
    exact ⟨rfl, S, _, vnm, ps, ns, (HW.out.keptN (hk.trans hk')).mono (by omega), Nat.le_refl _, by omega, by omega, by omega, fun h => absurd h HK.out⟩
  have HTold : Hid (o.kind = 3 ∨ o.kind = 6 ∨ o.kind = 7 → ∀ w1, Kept nothing w w1 → Calls Tryz.prog 43 #[.pointer (some ⟨bw, 0, none⟩), .agg #[.pointer (some ⟨p.b, 0, none⟩), .pointer (some ⟨p.a, 0, none⟩)], .agg o.cells] w1 fun e w' => e = .returned (.bool true) ∧ StepPost W0 bw L S ps ns o w') := by
    rintro (h | h | h) w1 hk
    · exact (told_read W0 w1 bw L _ vnm ps ns (HW.out.keptN hk) p HM.out o Ho.out h).mono (HWB.out w1 hk)
    · exact (told_used W0 w1 bw L _ vnm ps ns (HW.out.keptN hk) hL p HM.out o h).mono (HWB.out w1 hk)
    · refine (told_list W0 w1 bw L _ vnm ps ns (HW.out.keptN hk) hN p HM.out o h).mono ?_
      rintro e w' ⟨rfl, vnm', ns', hW', hn'⟩
      exact ⟨rfl, S, _, vnm', ps, ns', hW'.mono (by omega), Nat.le_refl _, by omega, by omega, by omega, fun h => absurd h HK.out⟩
  have HSent : Hid (o.kind = 8 → ∀ w1, Kept nothing w w1 → Calls Tryz.prog 44 #[.pointer (some ⟨bw, 0, none⟩), .agg #[.pointer (some ⟨p.b, 0, none⟩), .pointer (some ⟨p.a, 0, none⟩)], .agg o.cells] w1 fun e w' => e = .returned (.bool true) ∧ StepPost W0 bw L S ps ns o w') := by
    intro _ w1 hk
    by_cases h0 : (sendF p.R o.s o.t).2 = 0
    · refine (sent_ok W0 w1 bw L _ vnm ps ns (HW.out.keptN hk) hSl p HM.out o Ho.out h0).mono ?_
      rintro e w' ⟨rfl, S', hW', hl'⟩
      exact ⟨rfl, S', _, vnm, ps, ns, hW'.mono (by omega), Nat.le_refl _, by omega, by omega, by omega, fun h => absurd h HK.out⟩
    · exact (sent_bad W0 w1 bw L _ vnm ps ns (HW.out.keptN hk) p HM.out o Ho.out h0).mono (HWB.out w1 hk)
  have HDone : Hid (¬ (o.kind = 3 ∨ o.kind = 6 ∨ o.kind = 7) → o.kind ≠ 8 → ∀ w1, Kept nothing w w1 → Calls Tryz.prog 45 #[.pointer (some ⟨bw, 0, none⟩), .agg #[.pointer (some ⟨p.b, 0, none⟩), .pointer (some ⟨p.a, 0, none⟩)], .agg o.cells] w1 fun e w' => e = .returned (.bool true) ∧ StepPost W0 bw L S ps ns o w') := by
    intro hno _ w1 hk
    have hcl : ∀ e w', (e = Ending.returned (.bool true) ∧ ∃ ps', Wis W0 w' bw S (L + 1) (.slice (some ⟨g, 0, none⟩) ps.length lcap) vnm ps' ns ∧ ps'.length = ps.length) → e = Ending.returned (.bool true) ∧ StepPost W0 bw L S ps ns o w' := by
      rintro e w' ⟨rfl, ps', hW', hl'⟩
      exact ⟨rfl, S, _, vnm, ps', ns, hW', by omega, by omega, by omega, by omega, fun h => absurd h HK.out⟩
    by_cases h2 : o.kind = 2
    · exact (done_write W0 w1 bw L _ vnm ps ns (HW.out.keptN hk) hL q p HI.out o Ho.out h2).mono hcl
    by_cases h4 : o.kind = 4
    · exact (done_snap W0 w1 bw L _ vnm ps ns (HW.out.keptN hk) q p HI.out o Ho.out h4).mono hcl
    by_cases h5 : o.kind = 5
    · exact (done_drop W0 w1 bw L _ vnm ps ns (HW.out.keptN hk) q p HI.out o Ho.out h5).mono hcl
    · exact (done_other w1 bw p o (by omega) (by omega)).mono (HWB.out w1 hk)
  obtain ⟨kind, on, oa, ob, os, ot, ou⟩ := o
  exact step_go w bw g ps.length lcap q p.b p.a kind on oa ob os ot ou hc0 d0 d1 b1 kb1 kb9 hz Hpick.out (StepPost W0 bw L S ps ns ⟨kind, on, oa, ob, os, ot, ou⟩) HTold.out HSent.out HDone.out
end Go.Proofs.YtdnjfjdhkmngjaaGreatDoor
