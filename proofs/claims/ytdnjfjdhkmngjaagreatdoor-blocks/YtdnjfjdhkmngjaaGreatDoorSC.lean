import Derived.Test.YtdnjfjdhkmngjaaGreatDoorSB
import Derived.Test.YtdnjfjdhkmngjaaGreatDoorL
namespace Go.Proofs.YtdnjfjdhkmngjaaGreatDoor
open Go.RowKit

theorem made_strs (n : Nat) : (madeCells (Value.cells (.string ⟨#[]⟩)) (n * 1)).toList = List.replicate n (.string ⟨#[]⟩) := by
  apply List.ext_getElem
  · simp [madeCells]
  · intro i h1 h2
    simp [madeCells, Value.cells, Nat.mod_one]
theorem wp_make_strs (w : World) {ops : Array Oper} {rest : List Oper} {o : Oper} {a : Act} {Q : Exit → Act → World → Prop}
    (hg : o.guard = none) (l c : Operand) (hop : o.op = Op.makeSlice 32 l c)
    (n : Nat) (hl : a.eval l = .int .i64 n) (hc : a.eval c = .int .i64 n) (b2 : n ≤ 16)
    (hK : ∀ w', w'.ownsRow w.heap.size 9 1 (.slice (some ⟨w.heap.size, 0, none⟩) n n) n (List.replicate n (.string ⟨#[]⟩)) → Kept nothing w w' → wpList Tryz.prog ops Q rest (a.put o.dst (.slice (some ⟨w.heap.size, 0, none⟩) n n)) w') :
    wpList Tryz.prog ops Q (o :: rest) a w := by
  obtain ⟨ib, hib, hz, hsz, hby⟩ := info_parts info_str
  refine wpList_make_full w hg l c _ hop w.heap.size 9 ib _ 1 und_strs hib hz hsz .i64 .i64 n n n hl hc rfl rfl (by rw [hby]; omega) (by simp [maxLen]; omega) (Nat.le_refl _) ?_
  intro w' h1 h2
  refine hK w' (by rw [← made_strs]; exact h1) ((Kept.refl nothing w).grown h2 (by simp))

theorem owns_new (w : World) (xs : List Value) (n : Nat) (t : TypeId) (h : xs.length = n) (hn : n ≤ 4096) : (w.alloc (.cells xs.toArray t)).ownsRow w.heap.size t 1 (.slice (some ⟨w.heap.size, 0, none⟩) n n) n xs := by
  refine ⟨by omega, .inr ⟨w.heap.size, n, xs.toArray, rfl, Nat.le_refl _, heap_alloc_new w _, Nat.le_refl _, by simp [maxLen]; omega, by simp [h], by simp [← h]⟩⟩
theorem owns_keptB' {w w' : World} {base e size : Nat} {v : Value} {n : Nat} {xs : List Value} (h : w.ownsRow base e size v n xs) (hk : Kept nothing w w') : w'.ownsRow base e size v n xs :=
  owns_lift (owns_kept (owns_weaken h) hk (fun _ _ h => h)) (fun _ hg => owns_above h hg)
theorem strs_replicate (n : Nat) : strsOf (List.replicate n ⟨#[]⟩) = List.replicate n (.string ⟨#[]⟩) := by simp [strsOf]
theorem bcells_whole (n : Nat) (h : n ≤ 255) : bcells (wholeHead n) = [.int .u8 77, .int .u8 49, .int .u8 (n : Int), .int .u8 0, .int .u8 0, .int .u8 0, .int .u8 0, .int .u8 0] := by
  have := bcells_of [n] (by simpa using h)
  simp only [bcells, Lib.byteCells, wholeHead, List.map_cons, List.map_nil, List.cons.injEq, and_true] at this ⊢
  exact ⟨rfl, rfl, this, rfl, rfl, rfl, rfl, rfl⟩
theorem bcells_since (n : Nat) (h : n ≤ 255) : bcells [77, 49, UInt8.ofNat n, 1] = [.int .u8 77, .int .u8 49, .int .u8 (n : Int), .int .u8 1] := by
  have := bcells_of [n] (by simpa using h)
  simp only [bcells, Lib.byteCells, List.map_cons, List.map_nil, List.cons.injEq, and_true] at this ⊢
  exact ⟨rfl, rfl, this, rfl⟩

set_option maxRecDepth 100000 in
set_option maxHeartbeats 2000000 in
theorem sWhole_any (w : World) (v : Value) (new : List ByteArray) (hv : w.ownsRow 0 9 1 v new.length (strsOf new)) (hl : new.length ≤ 16) (hsm : ∀ t ∈ new, t.size ≤ 6) :
    Calls Tryz.prog 53 #[v] w fun e w' => e = .returned (.string (bstr (wholeL new))) ∧ Kept nothing w w' := by
  obtain ⟨sa, cap, rfl, hnc, hcm, _⟩ := owns_open hv
  unfold maxLen at hcm
  have Hv : Hid (w.ownsRow 0 9 1 (.slice sa new.length cap) new.length (strsOf new)) := hv
  have Hsm : Hid (∀ t ∈ new, t.size ≤ 6) := hsm
  have Hc : Hid (bcells (wholeHead new.length) = [.int .u8 77, .int .u8 49, .int .u8 (new.length : Int), .int .u8 0, .int .u8 0, .int .u8 0, .int .u8 0, .int .u8 0]) := bcells_whole _ (by omega)
  clear hv hsm
  go_enter Tryz.func53, Tryz.ntmps53
  go_wp2_with (at_make; refine wp_make_strs _ rfl _ _ rfl new.length rfl rfl hl ?_)
  intro w1 ho1 hk1
  have hA : (w.alloc (.cells #[.int .u8 77, .int .u8 49, .int .u8 (new.length : Int), .int .u8 0, .int .u8 0, .int .u8 0, .int .u8 0, .int .u8 0] 5)).ownsRow w.heap.size 5 1 (.slice (some ⟨w.heap.size, 0, none⟩) 8 8) (wholeHead new.length).length (bcells (wholeHead new.length)) := by
    rw [Hc.out]; exact owns_new w _ 8 5 rfl (by omega)
  have hk0 : Kept nothing w w1 := ((Kept.refl nothing w).alloc _).trans hk1
  have Hcall : Hid (Calls Tryz.prog 79 #[.slice (some ⟨w.heap.size, 0, none⟩) 8 8, .slice (some ⟨w.heap.size + 1, 0, none⟩) new.length new.length, .slice sa new.length cap] w1 fun e w' => e = .returned (.string (bstr (wholeL new))) ∧ Kept (bytesB w1 w.heap.size) w1 w') := by
    refine finish_any w1 w.heap.size _ _ _ (wholeHead new.length) (List.replicate new.length ⟨#[]⟩) new (owns_keptB' hA hk1) hk0.size (Nat.le_refl 8) ?_ (owns_kept Hv.out hk0 (fun _ _ h => h)) (by simp) hl Hsm.out
    rw [strs_replicate, List.length_replicate]
    exact owns_weaken (by simpa using ho1)
  clear ho1 hA
  obtain ⟨B, hB⟩ : ∃ B, B = bstr (wholeL new) := ⟨_, rfl⟩
  rw [← hB] at Hcall
  have HB : Hid (B = bstr (wholeL new)) := hB
  clear hB
  go_wp2_with (go_at_call 79; refine Hcall.out.mono ?_; rintro e w' ⟨rfl, hk'⟩)
  go_ret
  exact ⟨ret_string HB.out, hk0.over hk'⟩

set_option maxRecDepth 100000 in
set_option maxHeartbeats 2000000 in
theorem headSince_any (w : World) (vo : Value) (old : List ByteArray) (ho : w.ownsRow 0 9 1 vo old.length (strsOf old)) (hl : old.length ≤ 16) (hso : ∀ t ∈ old, t.size ≤ 6) :
    Calls Tryz.prog 80 #[vo] w fun e w' => ∃ v2, e = .returned v2 ∧ w'.ownsRow w.heap.size 5 1 v2 (sinceHead old.length old).length (bcells (sinceHead old.length old)) ∧ Kept nothing w w' := by
  obtain ⟨sa, cap, rfl, hnc, hcm, _⟩ := owns_open ho
  unfold maxLen at hcm
  have Hc : Hid (bcells [77, 49, UInt8.ofNat old.length, 1] = [.int .u8 77, .int .u8 49, .int .u8 (old.length : Int), .int .u8 1]) := bcells_since _ (by omega)
  have Hsum : Hid (∀ W, Kept nothing w W → Calls Tryz.prog 101 #[.slice sa old.length cap] W fun e w' => e = .returned (.int .u32 (fnvL (baseL old) : Nat)) ∧ Kept nothing W w') :=
    fun W hW => sumOfTexts_any W _ old (owns_kept ho hW (fun _ _ h => h)) (by omega) hso
  have Hhead : Hid (sinceHead old.length old = [77, 49, UInt8.ofNat old.length, 1] ++ sum4 (fnvL (baseL old))) := rfl
  have hlt4 := fnvL_lt (baseL old)
  clear ho hso
  generalize fnvL (baseL old) = H at Hsum Hhead hlt4
  go_enter Tryz.func80, Tryz.ntmps80
  go_wp2_with fail
  have hA : (w.alloc (.cells #[.int .u8 77, .int .u8 49, .int .u8 (old.length : Int), .int .u8 1] 5)).ownsRow w.heap.size 5 1 (.slice (some ⟨w.heap.size, 0, none⟩) 4 4) [77, 49, UInt8.ofNat old.length, 1].length (bcells [77, 49, UInt8.ofNat old.length, 1]) := by
    rw [Hc.out]; exact owns_new w _ 4 5 rfl (by omega)
  have hkA : Kept nothing w (w.alloc (.cells #[.int .u8 77, .int .u8 49, .int .u8 (old.length : Int), .int .u8 1] 5)) := (Kept.refl nothing w).alloc _
  refine (Hsum.out _ hkA).mono ?_
  rintro e w1 ⟨rfl, hk1⟩
  have hk01 := hkA.trans hk1
  have HA1 : Hid (w1.ownsRow w.heap.size 5 1 (.slice (some ⟨w.heap.size, 0, none⟩) 4 4) [77, 49, UInt8.ofNat old.length, 1].length (bcells [77, 49, UInt8.ofNat old.length, 1])) := owns_keptB' hA hk1
  clear hA hkA hk1
  go_wp2_with fail
  refine (appendSum_any w1 w.heap.size _ [77, 49, UInt8.ofNat old.length, 1] H HA1.out (by simp) hlt4 hk01.size).mono ?_
  rintro e w2 ⟨v2, rfl, ho2, hk2⟩
  have hk02 := hk01.over hk2
  have Ho2 : Hid (w2.ownsRow w.heap.size 5 1 v2 (sinceHead old.length old).length (bcells (sinceHead old.length old))) := by rw [Hhead.out]; exact ho2
  clear ho2 hk2 hk01
  go_wp2
  go_ret
  exact ⟨_, rfl, Ho2.out, hk02⟩

set_option maxRecDepth 100000 in
set_option maxHeartbeats 2000000 in
theorem sSince_any (w : World) (vo v : Value) (old new : List ByteArray) (ho : w.ownsRow 0 9 1 vo old.length (strsOf old)) (hv : w.ownsRow 0 9 1 v new.length (strsOf new)) (hlen : old.length = new.length) (hl : new.length ≤ 16) (hso : ∀ t ∈ old, t.size ≤ 6) (hsm : ∀ t ∈ new, t.size ≤ 6) :
    Calls Tryz.prog 54 #[vo, v] w fun e w' => e = .returned (.string (bstr (sinceL old new))) ∧ Kept nothing w w' := by
  have Hv : Hid (w.ownsRow 0 9 1 v new.length (strsOf new)) := hv
  have Ho : Hid (w.ownsRow 0 9 1 vo old.length (strsOf old)) := ho
  have Hsm : Hid (∀ t ∈ new, t.size ≤ 6) := hsm
  have Hlen : Hid (old.length = new.length) := hlen
  have Hhead : Hid (Calls Tryz.prog 80 #[vo] w fun e w' => ∃ v2, e = .returned v2 ∧ w'.ownsRow w.heap.size 5 1 v2 (sinceHead new.length old).length (bcells (sinceHead new.length old)) ∧ Kept nothing w w') := by
    have h := headSince_any w vo old ho (by omega) hso
    rw [hlen] at h; exact h
  clear hv hsm ho hso hlen
  go_enter Tryz.func54, Tryz.ntmps54
  go_wp2_with fail
  refine Hhead.out.mono ?_
  rintro e w2 ⟨v2, rfl, ho2, hk02⟩
  have Hcall : Hid (Calls Tryz.prog 79 #[v2, vo, v] w2 fun e w' => e = .returned (.string (bstr (sinceL old new))) ∧ Kept (bytesB w2 w.heap.size) w2 w') := by
    refine finish_any w2 w.heap.size _ _ _ (sinceHead new.length old) old new ho2 hk02.size ?_ (owns_kept Ho.out hk02 (fun _ _ h => h)) (owns_kept Hv.out hk02 (fun _ _ h => h)) Hlen.out hl Hsm.out
    exact Nat.le_refl 8
  clear ho2
  obtain ⟨B, hB⟩ : ∃ B, B = bstr (sinceL old new) := ⟨_, rfl⟩
  rw [← hB] at Hcall
  have HB : Hid (B = bstr (sinceL old new)) := hB
  clear hB
  go_wp2_with (go_at_call 79; refine Hcall.out.mono ?_; rintro e w' ⟨rfl, hk'⟩)
  go_ret
  exact ⟨ret_string HB.out, hk02.over hk'⟩

set_option maxRecDepth 100000 in
set_option maxHeartbeats 2000000 in
theorem cTexts_any (w : World) (ι : Nat → Nat) (v : Value) (bs : List Blk) (hT : Tab w ι v bs) (h1 : 1 ≤ bs.length) (hl : bs.length ≤ 16) :
    Calls Tryz.prog 52 #[.agg #[v]] w fun e w' => ∃ v', e = .returned v' ∧ w'.ownsRow w.heap.size 9 1 v' bs.length (strsOf (texts bs)) ∧ Kept nothing w w' := by
  obtain ⟨g, cap, rfl, _, hg, hn, hm⟩ := owns_parts hT.row (by omega)
  have HT : Hid (Tab w ι (.slice (some ⟨g, 0, none⟩) bs.length cap) bs) := hT
  clear hT
  go_enter Tryz.func52, Tryz.ntmps52
  go_wp2_with (at_make; refine wp_make_strs _ rfl _ _ rfl bs.length rfl rfl hl ?_)
  intro w1 ho1 hk1
  have hbox := hk1.get (heap_alloc_new w (.cells #[.slice (some ⟨g, 0, none⟩) bs.length cap] 70 (0, 0))) (fun h => h)
  have hk0 : Kept nothing w w1 := ((Kept.refl nothing w).alloc _).trans hk1
  have HB : Hid (w1.heap[w.heap.size]? = some (.cells #[.slice (some ⟨g, 0, none⟩) bs.length cap] 70 (0, 0))) := hbox
  have Ho1 : Hid (w1.ownsRow w.heap.size 9 1 (.slice (some ⟨w.heap.size + 1, 0, none⟩) bs.length bs.length) bs.length (List.replicate bs.length (.string ⟨#[]⟩))) := by
    have h := owns_mono_base ho1 (base' := w.heap.size) (by simp)
    simpa [Hid] using h
  clear ho1 hbox hk1
  go_wp2
  go_loopw [11] (fun i wr => ∃ k : Nat, k ≤ bs.length ∧ i = .int .i64 k ∧ wr.ownsRow w.heap.size 9 1 (.slice (some ⟨w.heap.size + 1, 0, none⟩) bs.length bs.length) bs.length (strsOf (texts (bs.take k)) ++ List.replicate (bs.length - k) (.string ⟨#[]⟩)) ∧ Kept nothing w wr ∧ wr.heap[w.heap.size]? = some (.cells #[.slice (some ⟨g, 0, none⟩) bs.length cap] 70 (0, 0))) (fun i _ => bs.length - (intOf i).toNat)
  case atStart => exact ⟨0, Nat.zero_le _, rfl, by simpa [texts] using Ho1.out, hk0, HB.out⟩
  case round =>
    obtain ⟨k, hk, rfl, how, hkp, hbx⟩ := hrel
    by_cases hlt : k < bs.length
    · have How : Hid (wr.ownsRow w.heap.size 9 1 (.slice (some ⟨w.heap.size + 1, 0, none⟩) bs.length bs.length) bs.length (strsOf (texts (bs.take k)) ++ List.replicate (bs.length - k) (.string ⟨#[]⟩))) := how
      have hcb : wr.cell? ⟨w.heap.size, 0, none⟩ = some (.slice (some ⟨g, 0, none⟩) bs.length cap) := blk_cell hbx 0 rfl
      have hlb : w.heap.size < wr.heap.size := blk_lt hbx
      have Hbx : Hid (wr.heap[w.heap.size]? = some (.cells #[.slice (some ⟨g, 0, none⟩) bs.length cap] 70 (0, 0))) := hbx
      have Hcall : Hid (Calls Tryz.prog 63 #[.agg #[.slice (some ⟨g, 0, none⟩) bs.length cap], .int .i64 k] wr fun e w' => e = .returned (.string bs[k].1) ∧ Kept nothing wr w') := cText_any wr ι _ bs k (HT.out.keptN hkp) hlt hl
      have Hset : Hid (∀ x, (strsOf (texts (bs.take k)) ++ List.replicate (bs.length - k) (Value.string ⟨#[]⟩)).set k (.string x) = strsOf (texts (bs.take k)) ++ [.string x] ++ List.replicate (bs.length - (k + 1)) (.string ⟨#[]⟩)) := by
        intro x
        have hl1 : (strsOf (texts (bs.take k))).length = k := by simp [texts]; omega
        rw [List.set_append_right _ _ (by omega), hl1, Nat.sub_self, show bs.length - k = (bs.length - (k + 1)) + 1 from by omega, List.replicate_succ, List.set_cons_zero, List.append_assoc]
        rfl
      have Htk : Hid (strsOf (texts (bs.take (k + 1))) = strsOf (texts (bs.take k)) ++ [.string bs[k].1]) := by
        show _ = _
        rw [List.take_succ_eq_append_getElem hlt, texts, List.map_append]; simp [texts, strsOf]
      have Hold : Hid (∃ x, (strsOf (texts (bs.take k)) ++ List.replicate (bs.length - k) (Value.string ⟨#[]⟩))[k]? = some (.string x)) := by
        refine ⟨⟨#[]⟩, ?_⟩
        have hl1 : (strsOf (texts (bs.take k))).length = k := by simp [texts]; omega
        rw [List.getElem?_append_right (by omega), hl1, Nat.sub_self, List.getElem?_replicate, if_pos (by omega)]
      generalize bs[k].1 = t at Hcall Htk
      generalize strsOf (texts (bs.take k)) ++ List.replicate (bs.length - k) (Value.string ⟨#[]⟩) = xs at How Hset Hold
      clear how hbx
      go_wp2_with fail
      refine Hcall.out.mono ?_
      rintro e w2 ⟨rfl, hk2⟩
      have How2 : Hid (w2.ownsRow w.heap.size 9 1 (.slice (some ⟨w.heap.size + 1, 0, none⟩) bs.length bs.length) bs.length xs) := owns_keptB' How.out hk2
      obtain ⟨x0, hx0⟩ := Hold.out
      have hc2 := owns_cell (owns_weaken How2.out) hx0
      have hf2 := owns_frozen (owns_weaken How2.out) k
      have Hb2 : Hid (w2.heap[w.heap.size]? = some (.cells #[.slice (some ⟨g, 0, none⟩) bs.length cap] 70 (0, 0))) := hk2.get Hbx.out (fun h => h)
      clear hx0
      go_wp2
      go_roundw
      case rel =>
        refine ⟨k + 1, by omega, by go_num, ?_, (hkp.trans hk2).setCell (p := ⟨w.heap.size + 1, k, none⟩) (.inr (by simp)) _, ?_⟩
        · rw [Htk.out, ← Hset.out t]
          exact owns_lift (owns_set (owns_weaken How2.out) k _) (fun g' hg' => owns_above How2.out hg')
        · exact ((Kept.refl (fun j => j = w.heap.size + 1) w2).set_at k (.string t)).get Hb2.out (by omega)
      case measure => simp [intOf]; omega
    · have hke : k = bs.length := by omega
      have How : Hid (wr.ownsRow w.heap.size 9 1 (.slice (some ⟨w.heap.size + 1, 0, none⟩) bs.length bs.length) bs.length (strsOf (texts bs))) := by
        rw [hke, List.take_length, Nat.sub_self] at how; simpa [Hid] using how
      clear how hke hbx
      go_wp2
      go_ret
      exact ⟨_, rfl, How.out, hkp⟩

/-! ### Next -/
/-- How many bytes come. -/
def nextN (most : Int) (n : Nat) : Nat := (max 0 (min most (n : Int))).toNat
theorem nextN_le (most : Int) (n : Nat) : nextN most n ≤ n := by unfold nextN; omega

set_option maxRecDepth 100000 in
set_option maxHeartbeats 2000000 in
theorem pNext_any (w : World) (x : Nat) (most : Int) (left : ByteArray) (hx : w.heap[x]? = some (.cells #[.string left] 105 (0, 0))) (hl : left.size ≤ 4096) :
    Calls Tryz.prog 27 #[.pointer (some ⟨x, 0, none⟩), .int .i64 most] w fun e w' => e = .returned (.string (left.extract 0 (nextN most left.size))) ∧ w' = w.setCell ⟨x, 0, none⟩ (.string (left.extract (nextN most left.size) left.size)) := by
  have hc := blk_cell hx 0 rfl
  have hf := blk_frozen hx 0
  have hlt := blk_lt hx
  go_enter Tryz.func27, Tryz.ntmps27
  go_wp2
  go_ret
  exact ⟨rfl, rfl⟩
end Go.Proofs.YtdnjfjdhkmngjaaGreatDoor
