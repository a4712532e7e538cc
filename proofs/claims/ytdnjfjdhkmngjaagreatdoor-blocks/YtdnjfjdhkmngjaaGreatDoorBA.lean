import Derived.Test.YtdnjfjdhkmngjaaGreatDoorM8
import Derived.Test.YtdnjfjdhkmngjaaGreatDoorT1
import Derived.Test.YtdnjfjdhkmngjaaGreatDoorC
import Derived.Deep.RegionWith
import Derived.BigRegion
import Derived.BigCall
namespace Go.Proofs.YtdnjfjdhkmngjaaGreatDoor
open Go.RowKit

/-- A string of these bytes. -/
def bstr (l : List UInt8) : ByteArray := ⟨l.toArray⟩
theorem bstr_append (l m : List UInt8) : bstr l ++ bstr m = bstr (l ++ m) := ByteArray.mk_append_mk l m
theorem bstr_size (l : List UInt8) : (bstr l).size = l.length := by simp [bstr, ByteArray.size]
theorem bstr_data (t : ByteArray) : bstr t.data.toList = t := by cases t; simp [bstr]
theorem bstr_toList (l : List UInt8) : (bstr l).data.toList = l := by simp [bstr]
theorem letterOf_bstr (n : Nat) : letterOf (n : Int) = bstr [UInt8.ofNat n] := rfl
theorem ofNat_mod (n : Nat) : UInt8.ofNat (n % 256) = UInt8.ofNat n := by
  apply UInt8.toNat_inj.1
  simp
theorem i64_xor_nat (a b : Nat) (ha : a < 9223372036854775808) (hb : b < 9223372036854775808) : bits .xor .i64 (a : Int) (b : Int) = ((a ^^^ b : Nat) : Int) := by
  have hx : a ^^^ b < 2 ^ 63 := Nat.xor_lt_two_pow (by omega) (by omega)
  show IntKind.i64.wrap ((BitVec.ofInt 64 (a : Int) ^^^ BitVec.ofInt 64 (b : Int)).toNat : Int) = _
  rw [BitVec.toNat_xor, ofInt_u64 a (by omega), ofInt_u64 b (by omega), IntKind.wrap_i64]
  omega

set_option maxHeartbeats 400000 in
theorem rone_any (n : Nat) (w : World) (h : n ≤ 255) :
    Calls Tryz.prog 92 #[.int .i64 n] w fun e w' => e = .returned (.string (bstr [UInt8.ofNat n])) ∧ Kept nothing w w' := by
  have hcv := conv_one
  go_enter Tryz.func92, Tryz.ntmps92
  go_wp2
  go_ret
  exact ⟨ret_string (letterOf_bstr n), (Kept.refl _ _).alloc _⟩

def sumAt (H : Nat) : Nat → Nat × List UInt8
  | 0 => (H, [])
  | k + 1 => ((sumAt H k).1 / 256, (sumAt H k).2 ++ [UInt8.ofNat ((sumAt H k).1 % 256)])
theorem sumAt_le (H : Nat) : ∀ k, (sumAt H k).1 ≤ H
  | 0 => Nat.le_refl _
  | k + 1 => Nat.le_trans (Nat.div_le_self _ _) (sumAt_le H k)
theorem sumAt_len (H : Nat) : ∀ k, (sumAt H k).2.length = k
  | 0 => rfl
  | k + 1 => by simp [sumAt, sumAt_len H k]
theorem sumAt_four (H : Nat) : (sumAt H 4).2 = sum4 H := by
  simp only [sumAt, ofNat_mod, sum4, List.nil_append, List.cons_append, Nat.div_div_eq_div_mul]
theorem xor_small (h : Nat) (b : UInt8) (hh : h < 4294967296) : h ^^^ b.toNat < 4294967296 := Nat.xor_lt_two_pow (n := 32) hh (by have := b.toNat_lt; omega)

set_option maxRecDepth 100000 in
set_option maxHeartbeats 1000000 in
theorem rsum_any (s : ByteArray) (w : World) (hs : s.size ≤ 4096) :
    Calls Tryz.prog 94 #[.string s] w fun e w' => e = .returned (.string (bstr (fnv4 s.data.toList))) ∧ Kept nothing w w' := by
  go_enter Tryz.func94, Tryz.ntmps94
  go_wp2
  go_loop [3, 4] (fun h i => ∃ k : Nat, k ≤ s.size ∧ i = .int .i64 k ∧ h = .int .i64 (fnvL (s.data.toList.take k) : Nat)) (fun _ i => s.size - (intOf i).toNat)
  case atStart => exact ⟨0, Nat.zero_le _, rfl, rfl⟩
  case round =>
    obtain ⟨k, hk, rfl, rfl⟩ := hrel
    have hlt4 := fnvL_lt (s.data.toList.take k)
    by_cases hlt : k < s.size
    · have Hs : Hid (fnvL (s.data.toList.take (k + 1)) = fnvStep (fnvL (s.data.toList.take k)) s[k]) := by
        show _ = _
        rw [List.take_succ_eq_append_getElem (by simpa using hlt), fnvL_snoc]; rfl
      generalize fnvL (s.data.toList.take k) = H at hlt4 Hs
      have hb : s[k].toNat < 256 := s[k].toNat_lt
      have hx := i64_xor_nat H s[k].toNat (by omega) (by omega)
      have hxl := xor_small H s[k] hlt4
      have Hst : Hid (fnvStep H s[k] = (H ^^^ s[k].toNat) * 16777619 % 4294967296) := rfl
      generalize H ^^^ s[k].toNat = X at hx hxl Hst
      go_wp2
      go_round
      case rel => exact ⟨k + 1, by omega, by go_num, by rw [Hs.out, Hst.out]; go_num⟩
      case measure => simp [intOf]; omega
    · have Hke : Hid (s.data.toList.take k = s.data.toList) := by
        show _ = _; rw [List.take_of_length_le]; simp; omega
      rw [Hke.out] at hlt4 ⊢
      have Hf : Hid (fnv4 s.data.toList = sum4 (fnvL s.data.toList)) := rfl
      generalize fnvL s.data.toList = H at hlt4 Hf ⊢
      clear Hke
      go_wp2
      go_loopw [3, 5, 6] (fun h o i wr => ∃ j : Nat, j ≤ 4 ∧ i = .int .i64 j ∧ h = .int .i64 ((sumAt H j).1 : Nat) ∧ o = .string (bstr (sumAt H j).2) ∧ Kept nothing w wr) (fun _ _ i _ => 4 - (intOf i).toNat)
      case atStart => exact ⟨0, by omega, rfl, rfl, rfl, Kept.refl _ _⟩
      case round =>
        obtain ⟨j, hj, rfl, rfl, rfl, hkp⟩ := hrel
        have hle := sumAt_le H j
        have hsz : (bstr (sumAt H j).2).size = j := by rw [bstr_size, sumAt_len]
        by_cases hjl : j < 4
        · have Hs1 : Hid ((sumAt H (j + 1)).1 = (sumAt H j).1 / 256) := rfl
          have Hs2 : Hid (bstr (sumAt H (j + 1)).2 = bstr (sumAt H j).2 ++ bstr [UInt8.ofNat ((sumAt H j).1 % 256)]) := by show _ = _; rw [bstr_append]; rfl
          generalize (sumAt H j).1 = m at Hs1 Hs2 hle
          generalize bstr (sumAt H j).2 = t at Hs2 hsz
          have Hcall : Hid (Calls Tryz.prog 92 #[.int .i64 ((m : Int) % 256)] wr fun e w' => e = .returned (.string (bstr [UInt8.ofNat (m % 256)])) ∧ Kept nothing wr w') := by
            have := rone_any (m % 256) wr (by omega)
            rw [show ((m % 256 : Nat) : Int) = (m : Int) % 256 from by omega] at this
            exact this
          have ho1 : (bstr [UInt8.ofNat (m % 256)]).size = 1 := rfl
          generalize bstr [UInt8.ofNat (m % 256)] = o1 at Hs2 Hcall ho1
          have hadd : ¬ 9223372036854775807 < t.size + o1.size := by omega
          go_wp2_with (go_at_call 92; refine Hcall.out.mono ?_; rintro e w' ⟨rfl, hk2⟩)
          go_roundw
          case rel => exact ⟨j + 1, by omega, by go_num, by rw [Hs1.out]; go_num, by rw [Hs2.out], hkp.trans hk2⟩
          case measure => simp [intOf]; omega
        · have hj4 : j = 4 := by omega
          have Hr : Hid (bstr (sumAt H j).2 = bstr (fnv4 s.data.toList)) := by show _ = _; rw [hj4, sumAt_four, Hf.out]
          clear hsz hj4 hle
          generalize bstr (sumAt H j).2 = t at Hr
          generalize (sumAt H j).1 = m
          go_wp2
          go_ret
          exact ⟨ret_string Hr.out, hkp⟩
end Go.Proofs.YtdnjfjdhkmngjaaGreatDoor
