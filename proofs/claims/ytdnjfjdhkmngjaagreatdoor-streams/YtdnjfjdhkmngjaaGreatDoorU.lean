import Derived.Test.YtdnjfjdhkmngjaaGreatDoorM6
namespace Go.Proofs.YtdnjfjdhkmngjaaGreatDoor
open Go.RowKit

set_option maxRecDepth 100000 in
set_option maxHeartbeats 1000000 in
theorem looks_any (W0 w : World) (bw L : Nat) (vl vnm : Value) (ps : List PS) (ns : List Value) {S : Snd} (hW : Wis W0 w bw S L vl vnm ps ns) (hN : ns.length ≤ 140737488355328) :
    Calls Tryz.prog 17 #[.pointer (some ⟨bw, 0, none⟩)] w fun e w' => e = .returned (.bool true) ∧ Kept nothing w w' := by
  have HW : Hid (Wis W0 w bw S L vl vnm ps ns) := hW
  have hc2 : w.cell? ⟨bw, 2, none⟩ = some vnm := blk_cell hW.world 2 rfl
  have hlt := blk_lt hW.world
  obtain ⟨na, ncap, hvn, hnn, hnm, hnc⟩ := owns_open (owns_weaken hW.names)
  subst hvn
  unfold maxLen at hnm
  have Hnc : Hid (0 < ns.length → ∃ g, na = some ⟨g, 0, none⟩ ∧ g < w.heap.size ∧ ∀ j u, ns[j]? = some u → w.cell? ⟨g, j, none⟩ = some u) := hnc
  clear hW hnc
  go_enter Tryz.func17, Tryz.ntmps17
  go_wp2
  go_loopw [3] (fun i wr => ∃ k : Nat, k ≤ ns.length ∧ i = .int .i64 k ∧ Kept nothing w wr) (fun i _ => ns.length - (intOf i).toNat)
  case atStart => exact ⟨0, Nat.zero_le _, rfl, Kept.refl _ _⟩
  case round =>
    obtain ⟨k, hk, rfl, hkp⟩ := hrel
    have hc2r := (hkp.cell (p := ⟨bw, 2, none⟩) hlt (fun h => h)).trans hc2
    by_cases hltk : k < ns.length
    · obtain ⟨g, hna, hg, hcs⟩ := Hnc.out (by omega)
      subst hna
      have hck := hcs k ns[k] (by simp)
      obtain ⟨n, hn⟩ := HW.out.marks k ns[k] (by simp)
      generalize ns[k] = v at hck hn
      obtain ⟨va, vcap, hvv, hvn, hvm, hvc⟩ := owns_open hn
      subst hvv
      unfold maxLen at hvm
      have Hvc : Hid (0 < n → ∃ g, va = some ⟨g, 0, none⟩ ∧ g < w.heap.size ∧ ∀ j u, (List.replicate n (Value.string (lettersF (k / 4))))[j]? = some u → w.cell? ⟨g, j, none⟩ = some u) := hvc
      have hckr := (hkp.cell (p := ⟨g, k, none⟩) hg (fun h => h)).trans hck
      obtain ⟨wo, hwo⟩ : ∃ wo, wo = wr := ⟨_, rfl⟩
      subst hwo
      clear hcs hvc hn
      go_wp2_with fail
      rw [show ((k : Int) / 4) = ((k / 4 : Nat) : Int) from by omega]
      refine (letters_any (k / 4) _ (by omega)).mono ?_
      rintro e w1 ⟨rfl, hk1⟩
      have hkp1 := hkp.trans hk1
      generalize lettersF (k / 4) = x at Hvc
      go_wp2
      go_loopw [5] (fun i wr => ∃ j : Nat, j ≤ n ∧ i = .int .i64 j ∧ Kept nothing w wr) (fun i _ => n - (intOf i).toNat)
      case atStart => exact ⟨0, Nat.zero_le _, rfl, hkp1⟩
      case round =>
        clear hkp1 hkp hk1 hc2r hckr
        obtain ⟨j, hj, rfl, hkp⟩ := hrel
        have hc2r := (hkp.cell (p := ⟨bw, 2, none⟩) hlt (fun h => h)).trans hc2
        have hckr := (hkp.cell (p := ⟨g, k, none⟩) hg (fun h => h)).trans hck
        by_cases hjn : j < n
        · obtain ⟨g1, hva, hg1, hcs⟩ := Hvc.out (by omega)
          subst hva
          have hcj := (hkp.cell (p := ⟨g1, j, none⟩) hg1 (fun h => h)).trans (hcs j (.string x) (by simp [hjn]))
          have hxx : (x.toList == x.toList) = true := by simp
          clear hcs
          go_wp2
          go_roundw
          case rel => exact ⟨j + 1, by omega, by go_num, hkp⟩
          case measure => simp [intOf]; omega
        · go_wp2
          go_roundw
          case rel => exact ⟨k + 1, by omega, by go_num, hkp⟩
          case measure => simp [intOf]; omega
    · go_wp2
      go_ret
      exact ⟨rfl, hkp⟩
end Go.Proofs.YtdnjfjdhkmngjaaGreatDoor
