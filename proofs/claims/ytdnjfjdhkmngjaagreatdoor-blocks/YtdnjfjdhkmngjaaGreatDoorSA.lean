import Derived.Test.YtdnjfjdhkmngjaaGreatDoorBA
import Derived.Test.YtdnjfjdhkmngjaaGreatDoorF
namespace Go.Proofs.YtdnjfjdhkmngjaaGreatDoor
open Go.RowKit

abbrev bcells (l : List UInt8) : List Value := Lib.byteCells l
theorem bcells_len (l : List UInt8) : (bcells l).length = l.length * 1 := by simp [Lib.byteCells]
theorem bcells_append (l m : List UInt8) : bcells (l ++ m) = bcells l ++ bcells m := by simp [Lib.byteCells]
theorem bcells_one (l : List UInt8) : ∀ u ∈ bcells l, u.oneCell' = true := by
  intro u hu
  obtain ⟨b, _, rfl⟩ := List.mem_map.1 hu
  rfl
theorem bcells_get (l : List UInt8) (k : Nat) (h : k < l.length) : (bcells l)[k]? = some (.int .u8 l[k].toNat) := by simp [Lib.byteCells, h]
theorem byte_nat (n : Nat) (h : n ≤ 255) : (UInt8.ofNat n).toNat = n := by simp; omega
theorem bcells_of (ns : List Nat) (h : ∀ n ∈ ns, n ≤ 255) : bcells (ns.map UInt8.ofNat) = ns.map (fun n => .int .u8 (n : Int)) := by
  simp only [bcells, Lib.byteCells, List.map_map]
  apply List.map_congr_left
  intro n hn
  simp only [Function.comp, byte_nat n (h n hn)]
theorem news_at (w : World) (xs : List Value) (t : TypeId) : ∀ j u, xs[j]? = some u → (w.alloc (.cells xs.toArray t)).cell? ((⟨w.heap.size, 0, none⟩ : Addr).add j) = some u := by
  intro j u hu
  have hadd : (⟨w.heap.size, 0, none⟩ : Addr).add j = ⟨w.heap.size, j, none⟩ := by unfold Addr.add; split <;> simp_all
  rw [hadd]
  exact blk_cell (heap_alloc_new w _) j (by simpa using hu)
/-- The rows of bytes above a mark: they may turn. -/
def bytesB (w : World) (b : Nat) : Nat → Prop := fun k => b ≤ k ∧ ∃ cur, w.heap[k]? = some (.cells cur 5 (0, 0))
theorem Kept.over {w0 w w' : World} (h : Kept nothing w0 w) (k : Kept (bytesB w w0.heap.size) w w') : Kept nothing w0 w' :=
  h.trans' k (fun i hi t => by have := t.1; omega)
theorem Kept.bytes {a m c : World} {b : Nat} (h : Kept (bytesB a b) a m) (k : Kept (bytesB m b) m c) : Kept (bytesB a b) a c := by
  refine h.trans' k (fun i hi t => ?_)
  by_cases hs : bytesB a b i
  · exact hs
  · obtain ⟨h1, cur, hc⟩ := t
    rw [h.block i hi hs] at hc
    exact ⟨h1, cur, hc⟩
theorem Kept.bytesGrown {a m c : World} {b n : Nat} {v : Value} {xs : List Value} (h : Kept (bytesB a b) a m) (hv : m.ownsRow b 5 1 v n xs) (hg : m.grownBy c v.ownBlock) : Kept (bytesB a b) a c :=
  h.bytes ((Kept.refl _ m).grown hg (fun _ hk => .inl ⟨owns_above hv hk, owns_tag (owns_weaken hv) hk⟩))

set_option maxHeartbeats 1000000 in
theorem appendText_any (w : World) (base : Nat) (v : Value) (l : List UInt8) (t : ByteArray) (hv : w.ownsRow base 5 1 v l.length (bcells l)) (hl : l.length ≤ 4096) (ht : t.size ≤ 6) (hb : base ≤ w.heap.size) :
    Calls Tryz.prog 98 #[v, .string t] w fun e w' => ∃ v', e = .returned v' ∧ w'.ownsRow base 5 1 v' (l ++ textL t).length (bcells (l ++ textL t)) ∧ Kept (bytesB w base) w w' := by
  have Hv : Hid (w.ownsRow base 5 1 v l.length (bcells l)) := hv
  obtain ⟨ib, hib, hz, hsize, hbyt⟩ := info_parts info_byte
  have HI : Hid (Tryz.prog.info? 5 = some ib ∧ ib.zero = some (.int .u8 0) ∧ ib.size = 1 ∧ ib.bytes = 1) := ⟨hib, hz, hsize, hbyt⟩
  clear hv hib hz hsize hbyt
  go_enter Tryz.func98, Tryz.ntmps98
  go_wp2_with (at_builtin; refine wp_append _ _ _ 1 1 und_bytes info_byte rfl (by decide) (by decide) _ rfl _ _ rfl base v l.length (bcells l) rfl (Hv.out.alloc _) ⟨w.heap.size, 0, none⟩ 1 1 [.int .u8 (t.size : Int)] rfl rfl (news_at _ _ _) ?_ ?_ ?_ ?_)
  · simp [Value.oneCell']
  · omega
  · simp; omega
  intro v1 w1 ho1 hg1 _
  have hk1 : Kept (bytesB w base) w w1 := ((Kept.refl _ w).alloc _).bytesGrown (Hv.out.alloc _) hg1
  have Ho1 : Hid (w1.ownsRow base 5 1 v1 (l.length + 1) (bcells (l ++ [UInt8.ofNat t.size]))) := by
    show w1.ownsRow base 5 1 v1 (l.length + 1) (bcells (l ++ [UInt8.ofNat t.size]))
    rw [bcells_append, show bcells [UInt8.ofNat t.size] = [.int .u8 (t.size : Int)] from bcells_of [t.size] (by simp; omega)]; exact ho1
  have hb1 : base ≤ w1.heap.size := Nat.le_trans hb hk1.size
  clear ho1 hg1
  go_wp2_with (at_builtin; refine Lib.wpList_append_own_string _ rfl _ _ 41 9 rfl base 5 ib und_bytes und_str HI.out.1 HI.out.2.1 HI.out.2.2.1 HI.out.2.2.2 v1 (l.length + 1) (bcells (l ++ [UInt8.ofNat t.size])) rfl Ho1.out t rfl ?_ ?_ hb1 ?_)
  · simp only [maxLen]; omega
  · omega
  intro v2 w2 ho2 hg2 _
  have hk2 : Kept (bytesB w base) w w2 := hk1.bytesGrown Ho1.out hg2
  have Ho2 : Hid (w2.ownsRow base 5 1 v2 (l ++ textL t).length (bcells (l ++ textL t))) := by
    have e1 : (l ++ textL t).length = l.length + 1 + t.size := by simp [textL_len]; omega
    have e2 : bcells (l ++ textL t) = bcells (l ++ [UInt8.ofNat t.size]) ++ Lib.strCells t := by
      rw [show l ++ textL t = (l ++ [UInt8.ofNat t.size]) ++ t.data.toList from by simp [textL], bcells_append]; rfl
    show w2.ownsRow base 5 1 v2 (l ++ textL t).length (bcells (l ++ textL t))
    rw [e1, e2]; exact ho2
  clear ho2 hg2
  go_wp2
  go_ret
  exact ⟨_, rfl, Ho2.out, hk2⟩

set_option maxHeartbeats 1000000 in
theorem sumOf_any (w : World) (v : Value) (l : List UInt8) (hv : w.ownsRow 0 5 1 v l.length (bcells l)) (hl : l.length ≤ 4096) :
    Calls Tryz.prog 100 #[v] w fun e w' => e = .returned (.int .u32 (fnvL l : Nat)) ∧ w' = w := by
  obtain ⟨sa, cap, rfl, hnc, hcm, hcells⟩ := owns_open hv
  unfold maxLen at hcm
  clear hv
  go_enter Tryz.func100, Tryz.ntmps100
  go_wp2
  go_loop [3, 8] (fun h i => ∃ k : Nat, k ≤ l.length ∧ i = .int .i64 k ∧ h = .int .u32 (fnvL (l.take k) : Nat)) (fun _ i => l.length - (intOf i).toNat)
  case atStart => exact ⟨0, Nat.zero_le _, rfl, rfl⟩
  case round =>
    obtain ⟨k, hk, rfl, rfl⟩ := hrel
    have hlt4 := fnvL_lt (l.take k)
    by_cases hlt : k < l.length
    · obtain ⟨g, rfl, hg, hc⟩ := hcells (by omega)
      have hc0 := hc k _ (bcells_get l k hlt)
      have Hs : Hid (fnvL (l.take (k + 1)) = fnvStep (fnvL (l.take k)) l[k]) := by
        show _ = _
        rw [List.take_succ_eq_append_getElem hlt, fnvL_snoc]
      generalize fnvL (l.take k) = H at hlt4 Hs
      have hb : l[k].toNat < 256 := l[k].toNat_lt
      have hx := u32_xor_nat H l[k].toNat (by omega) (by omega)
      have hxl := xor_small H l[k] hlt4
      have Hst : Hid (fnvStep H l[k] = (H ^^^ l[k].toNat) * 16777619 % 4294967296) := rfl
      generalize H ^^^ l[k].toNat = X at hx hxl Hst
      generalize l[k].toNat = b at hx hc0 hb
      clear hc hcells
      go_wp2
      go_round
      case rel => exact ⟨k + 1, by omega, by go_num, by rw [Hs.out, Hst.out]; go_num⟩
      case measure => simp [intOf]; omega
    · have Hke : Hid (l.take k = l) := by show _ = _; rw [List.take_of_length_le (by omega)]
      rw [Hke.out] at hlt4 ⊢
      clear hcells
      go_wp2
      go_ret
      exact ⟨rfl, rfl⟩

theorem bcells_sum4 (n : Nat) (h : n < 4294967296) : bcells (sum4 n) = [.int .u8 ((n : Int) % 256), .int .u8 ((n : Int) / 256 % 256), .int .u8 ((n : Int) / 65536 % 256), .int .u8 ((n : Int) / 16777216)] := by
  simp only [bcells, Lib.byteCells, sum4, List.map_cons, List.map_nil, UInt8.toNat_ofNat']
  rw [show ((n % 2 ^ 8 : Nat) : Int) = (n : Int) % 256 from by omega, show ((n / 256 % 2 ^ 8 : Nat) : Int) = (n : Int) / 256 % 256 from by omega, show ((n / 65536 % 2 ^ 8 : Nat) : Int) = (n : Int) / 65536 % 256 from by omega, show ((n / 16777216 % 2 ^ 8 : Nat) : Int) = (n : Int) / 16777216 from by omega]

set_option maxRecDepth 100000 in
set_option maxHeartbeats 1000000 in
theorem appendSum_any (w : World) (base : Nat) (v : Value) (l : List UInt8) (n : Nat) (hv : w.ownsRow base 5 1 v l.length (bcells l)) (hl : l.length ≤ 4096) (hn : n < 4294967296) (hb : base ≤ w.heap.size) :
    Calls Tryz.prog 99 #[v, .int .u32 n] w fun e w' => ∃ v', e = .returned v' ∧ w'.ownsRow base 5 1 v' (l ++ sum4 n).length (bcells (l ++ sum4 n)) ∧ Kept (bytesB w base) w w' := by
  have Hv : Hid (w.ownsRow base 5 1 v l.length (bcells l)) := hv
  have Hc : Hid (bcells (sum4 n) = [.int .u8 ((n : Int) % 256), .int .u8 ((n : Int) / 256 % 256), .int .u8 ((n : Int) / 65536 % 256), .int .u8 ((n : Int) / 16777216)]) := bcells_sum4 n hn
  clear hv
  go_enter Tryz.func99, Tryz.ntmps99
  go_wp2_with (at_builtin; refine wp_append _ _ _ 1 1 und_bytes info_byte rfl (by decide) (by decide) _ rfl _ _ rfl base v l.length (bcells l) rfl (Hv.out.alloc _) ⟨w.heap.size, 0, none⟩ 4 4 [.int .u8 ((n : Int) % 256), .int .u8 ((n : Int) / 256 % 256), .int .u8 ((n : Int) / 65536 % 256), .int .u8 ((n : Int) / 16777216)] rfl rfl (news_at _ _ _) ?_ ?_ ?_ ?_)
  · simp [Value.oneCell']
  · omega
  · simp; omega
  intro v1 w1 ho1 hg1 _
  have hk1 : Kept (bytesB w base) w w1 := ((Kept.refl _ w).alloc _).bytesGrown (Hv.out.alloc _) hg1
  have Ho1 : Hid (w1.ownsRow base 5 1 v1 (l ++ sum4 n).length (bcells (l ++ sum4 n))) := by
    show w1.ownsRow base 5 1 v1 (l ++ sum4 n).length (bcells (l ++ sum4 n))
    rw [bcells_append, Hc.out, List.length_append, sum4_len]; exact ho1
  clear ho1 hg1
  go_wp2
  go_ret
  exact ⟨_, rfl, Ho1.out, hk1⟩

abbrev strsOf (ts : List ByteArray) : List Value := ts.map Value.string
theorem baseL_take_succ (ts : List ByteArray) (k : Nat) (h : k < ts.length) : baseL (ts.take (k + 1)) = baseL (ts.take k) ++ textL ts[k] := by
  unfold baseL
  rw [List.take_succ_eq_append_getElem h, List.flatMap_append]; simp

set_option maxHeartbeats 1000000 in
theorem sumOfTexts_any (w : World) (v : Value) (ts : List ByteArray) (hv : w.ownsRow 0 9 1 v ts.length (strsOf ts)) (hl : ts.length ≤ 16) (hsm : ∀ t ∈ ts, t.size ≤ 6) :
    Calls Tryz.prog 101 #[v] w fun e w' => e = .returned (.int .u32 (fnvL (baseL ts) : Nat)) ∧ Kept nothing w w' := by
  obtain ⟨sa, cap, rfl, hnc, hcm, hcells⟩ := owns_open hv
  unfold maxLen at hcm
  have Hsm : Hid (∀ t ∈ ts, t.size ≤ 6) := hsm
  clear hv hsm
  go_enter Tryz.func101, Tryz.ntmps101
  go_wp2
  go_loopw [3, 8] (fun f i wr => ∃ k : Nat, k ≤ ts.length ∧ i = .int .i64 k ∧ wr.ownsRow w.heap.size 5 1 f (baseL (ts.take k)).length (bcells (baseL (ts.take k))) ∧ Kept nothing w wr) (fun _ i _ => ts.length - (intOf i).toNat)
  case atStart => exact ⟨0, Nat.zero_le _, rfl, World.ownsRow_nil _ _ _ _, Kept.refl _ _⟩
  case round =>
    obtain ⟨k, hk, rfl, how, hkp⟩ := hrel
    have hbl : (baseL (ts.take k)).length ≤ 112 := by
      have := baseL_len (ts.take k) (fun t ht => Hsm.out t (List.mem_of_mem_take ht))
      rw [List.length_take] at this; omega
    by_cases hlt : k < ts.length
    · obtain ⟨g, rfl, hg, hc⟩ := hcells (by omega)
      have hc0 := (hkp.cell (p := ⟨g, k, none⟩) hg (fun h => h)).trans (hc k (.string ts[k]) (by simp [hlt]))
      have htl := Hsm.out ts[k] (by simp)
      have Hs : Hid (baseL (ts.take (k + 1)) = baseL (ts.take k) ++ textL ts[k]) := baseL_take_succ ts k hlt
      generalize ts[k] = t at hc0 htl Hs
      have Hcall : Hid (Calls Tryz.prog 98 #[u3, .string t] wr fun e w' => ∃ v', e = .returned v' ∧ w'.ownsRow w.heap.size 5 1 v' (baseL (ts.take k) ++ textL t).length (bcells (baseL (ts.take k) ++ textL t)) ∧ Kept (bytesB wr w.heap.size) wr w') :=
        appendText_any wr w.heap.size u3 (baseL (ts.take k)) t how (by omega) htl hkp.size
      clear hc hcells how
      go_wp2_with (go_at_call 98; refine Hcall.out.mono ?_; rintro e w' ⟨v', rfl, ho', hk'⟩)
      go_roundw
      case rel => exact ⟨k + 1, by omega, by go_num, by rw [Hs.out]; exact ho', hkp.over hk'⟩
      case measure => simp [intOf]; omega
    · have Hke : Hid (ts.take k = ts) := by show _ = _; rw [List.take_of_length_le (by omega)]
      rw [Hke.out] at how hbl
      have Hcall : Hid (Calls Tryz.prog 100 #[u3] wr fun e w' => e = .returned (.int .u32 (fnvL (baseL ts) : Nat)) ∧ w' = wr) := sumOf_any wr u3 (baseL ts) (owns_weaken how) (by omega)
      clear hcells how Hke
      obtain ⟨H, hH⟩ : ∃ H, H = fnvL (baseL ts) := ⟨_, rfl⟩
      rw [← hH] at Hcall
      have HH : Hid (H = fnvL (baseL ts)) := hH
      clear hH
      go_wp2_with (go_at_call 100; refine Hcall.out.mono ?_; rintro e w' ⟨rfl, rfl⟩)
      go_ret
      exact ⟨by rw [← HH.out]; rfl, hkp⟩
end Go.Proofs.YtdnjfjdhkmngjaaGreatDoor
