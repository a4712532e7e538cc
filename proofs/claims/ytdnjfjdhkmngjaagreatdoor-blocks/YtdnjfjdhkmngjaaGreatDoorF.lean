import Derived.Test.YtdnjfjdhkmngjaaGreatDoorC
import Derived.Test.YtdnjfjdhkmngjaaGreatDoorM4
import Derived.Lib.Strings
import Derived.Lib.Walk
import Derived.Lib.BufferWrite
import Derived.Lib.UnsafeStr
namespace Go.Proofs.YtdnjfjdhkmngjaaGreatDoor
open Go.RowKit

theorem und_bytes : Tryz.prog.underlying 41 = some (.slice 5) := by kernel_rfl
theorem und_pbyte : Tryz.prog.underlying 167 = some (.pointer 5) := by kernel_rfl
theorem info_byte : (Tryz.prog.info? 5).map (fun i => (i.zero, i.size, i.bytes)) = some (some (.int .u8 0), 1, 1) := by kernel_rfl

set_option maxHeartbeats 4000000 in
set_option maxRecDepth 100000 in
theorem slClone2_any (s : ByteArray) (w : World) (hlim : s.size ≤ 281474976710656) :
    Calls Tryz.prog 62 #[.string s] w fun e w' => e = .returned (.string s) ∧ Kept nothing w w' := by
  by_cases h0 : s.size = 0
  · have hs : s = ⟨#[]⟩ := by
      apply ByteArray.ext
      exact Array.eq_empty_of_size_eq_zero h0
    subst hs
    go_enter Tryz.func62, Tryz.ntmps62
    go_wp2
    go_ret
    exact ⟨rfl, Kept.refl _ _⟩
  · obtain ⟨i0, hi, hz0, hz1, hz2⟩ := info_parts info_byte
    have hinfo : (Tryz.prog.info? 5).map (·.size) = some 1 := by rw [hi]; simp [hz1]
    have hco : Tryz.prog.cellsOf 5 = 1 := by simp [Program.cellsOf, hi, hz1]
    obtain ⟨M, hM⟩ : ∃ M, M = madeCells (Value.int .u8 0).cells (((s.size : Nat) : Int).toNat * i0.size) := ⟨_, rfl⟩
    have hMs : M.size = s.size := by rw [hM, size_madeCells, hz1]; simp
    have hmk : ∀ W : World, (Instr.makeSlice 41 (.int .i64 (s.size : Int)) (.int .i64 (s.size : Int))).run Tryz.prog W = .ok (.slice (some ⟨W.heap.size, 0, none⟩) s.size s.size) (W.alloc (.cells M 5)) := fun W => by
      have h := run_make (P := Tryz.prog) W 41 5 i0 (.int .u8 0) und_bytes hi hz0 .i64 .i64 (s.size : Int) (s.size : Int) (by omega) (by omega) (by rw [hz2]; omega) (by omega)
      rw [← hM] at h
      simpa using h
    clear hM
    have hcp := Lib.run_copy_row_string (P := Tryz.prog) (w.alloc (.cells M 5)) 41 9 3 5 w.heap.size 0 s.size s.size s M 5 und_bytes hinfo (heap_alloc_new w _) (Nat.le_refl _) (by omega)
    obtain ⟨Y, hY⟩ : ∃ Y, Y = (M.toList.take 0 ++ Lib.byteCells s.data.toList ++ M.toList.drop (0 + s.size)).toArray := ⟨_, rfl⟩
    rw [← hY] at hcp
    have hYl : Y.toList = Lib.byteCells s.data.toList := by
      rw [hY, List.toList_toArray, List.take_zero, List.nil_append, List.drop_of_length_le (by rw [Array.length_toList]; omega), List.append_nil]
    have hYs : Y.size = s.size := by rw [← Array.length_toList, hYl, Lib.byteCells_length, ← Lib.size_eq]
    have hgY : ((w.alloc (.cells M 5)).setRow w.heap.size Y).heap[w.heap.size]? = some (.cells Y 5 (0, 0)) := setRow_heap _ _ M _ 5 (0, 0) (heap_alloc_new w _)
    have hne : s.data.toList ≠ [] := fun e => h0 (by rw [Lib.size_eq, e]; rfl)
    have hUS := Lib.run_unsafeString_row (P := Tryz.prog) ((w.alloc (.cells M 5)).setRow w.heap.size Y) 167 3 9 5 und_pbyte hco w.heap.size Y.size (by unfold World.shape?; rw [hgY]) s.data.toList hne (by rw [← Lib.size_eq]; omega) (by rw [← Lib.size_eq]; omega)
      (fun j x hx => Lib.cells_of_row hgY Y.size j _ (by rw [List.take_of_length_le (by rw [Array.length_toList]; exact Nat.le_refl _), hYl]; simp [Lib.byteCells, hx]))
    rw [← Lib.size_eq] at hUS
    clear hY
    go_enter Tryz.func62, Tryz.ntmps62
    go_wp2
    go_ret
    have hb1 : Below w.heap.size w (w.alloc (.cells M 5)) := (Below.refl _ w).alloc (Nat.le_refl _) _
    have hb2 : Below w.heap.size (w.alloc (.cells M 5)) ((w.alloc (.cells M 5)).setRow w.heap.size Y) := ⟨rfl, rfl, rfl, by simp, fun k hk => setRow_other _ _ _ _ (by omega)⟩
    exact ⟨rfl, Kept.of_below (Lib.below_freeze (hb1.trans hb2) (p := ⟨w.heap.size, 0, none⟩) (Nat.le_refl _) _) _⟩

set_option maxHeartbeats 400000 in
theorem sClone_any (s : ByteArray) (w : World) (hlim : s.size ≤ 281474976710656) :
    Calls Tryz.prog 35 #[.string s] w fun e w' => e = .returned (.string s) ∧ Kept nothing w w' := by
  go_enter Tryz.func35, Tryz.ntmps35
  go_wp2_with (go_at_call 62; refine (slClone2_any s w hlim).mono ?_; rintro e w' ⟨rfl, hk⟩)
  go_ret
  exact ⟨rfl, hk⟩

set_option maxHeartbeats 400000 in
/-- hold: a new cell, or none. -/
theorem hold_any (s : ByteArray) (w : World) (hlim : s.size ≤ 281474976710656) :
    Calls Tryz.prog 78 #[.string s] w fun e w' => (s = ⟨#[]⟩ → e = .returned (.pointer none)) ∧ (s ≠ ⟨#[]⟩ → ∃ nb, e = .returned (.pointer (some ⟨nb, 0, none⟩)) ∧ w.heap.size ≤ nb ∧ w'.heap[nb]? = some (.cells #[.string s] 169 (0, 0))) ∧ Kept nothing w w' := by
  by_cases he : s = ⟨#[]⟩
  · have hE : s.toList.isEmpty = true := by rw [str_empty]; simp [he]
    have He : Hid (s = ⟨#[]⟩) := he
    clear he
    go_enter Tryz.func78, Tryz.ntmps78
    go_wp2
    go_ret
    exact ⟨fun _ => rfl, fun h => absurd He.out h, Kept.refl _ _⟩
  · have hE : s.toList.isEmpty = false := by rw [str_empty]; simp [he]
    have He : Hid (s ≠ ⟨#[]⟩) := he
    clear he
    go_enter Tryz.func78, Tryz.ntmps78
    go_wp2_with (go_at_call 35; refine (sClone_any s w hlim).mono ?_; rintro e w' ⟨rfl, hk⟩)
    go_ret
    exact ⟨fun h => absurd h He.out, fun _ => ⟨w'.heap.size, rfl, hk.size, heap_alloc_new w' _⟩, hk.alloc _⟩

theorem und_pcells : Tryz.prog.underlying 68 = some (.slice 151) := by kernel_rfl
theorem info_pcell : (Tryz.prog.info? 151).map (fun i => (i.zero, i.size, i.bytes)) = some (some (.pointer none), 1, 8) := by kernel_rfl

set_option maxHeartbeats 400000 in
theorem slClone_any (w : World) (v : Value) (ι : Nat → Nat) (bs : List Blk) (hbs : w.ownsRow 0 151 1 v bs.length (pcells ι bs)) (h1 : 1 ≤ bs.length) (h2 : bs.length ≤ 16) :
    Calls Tryz.prog 77 #[v] w fun e w' => ∃ v', e = .returned v' ∧ w'.ownsRow w.heap.size 151 1 v' bs.length (pcells ι bs) ∧ Kept nothing w w' := by
  obtain ⟨g, bcap, rfl, _, hg, hbn, hbm⟩ := owns_parts hbs h1
  have Hbs : Hid (w.ownsRow 0 151 1 (.slice (some ⟨g, 0, none⟩) bs.length bcap) bs.length (pcells ι bs)) := hbs
  clear hbs
  have hnil := fun (a : Option Addr) (n c : Nat) (w : World) => Lib.run_eql_slice_nil (P := Tryz.prog) w 68 151 a n c 0 0 und_pcells
  go_enter Tryz.func77, Tryz.ntmps77
  go_wp2_with (at_builtin; refine wp_append _ _ _ 1 8 und_pcells info_pcell rfl (by decide) (by decide) _ rfl _ _ rfl w.heap.size (.slice (some ⟨w.heap.size, 0, none⟩) 0 0) 0 [] rfl (World.ownsRow_made w #[] 0 (Nat.le_refl _) (by simp [maxLen]) rfl) ⟨g, 0, none⟩ bs.length bcap (pcells ι bs) rfl (pcells_len ι bs) (fun j u hu => owns_cell_at (Hbs.out.alloc _) hu) (pcells_one ι bs) (by omega) (by simp) ?_)
  intro v' w' ho hgr _
  go_wp2
  go_ret
  exact ⟨_, rfl, by simpa using ho, ((Kept.refl nothing w).alloc _).grown hgr (by simp [Value.ownBlock])⟩

set_option maxHeartbeats 400000 in
theorem cHas_any (w : World) (a : Option Addr) (n cap : Nat) (block : Int) :
    Calls Tryz.prog 50 #[.agg #[.slice a n cap], .int .i64 block] w fun e w' => e = .returned (.bool (decide (0 ≤ block) && decide (block < n))) ∧ Kept nothing w w' := by
  by_cases h0 : 0 ≤ block
  · by_cases h1 : block < n
    all_goals
      go_enter Tryz.func50, Tryz.ntmps50
      go_wp2
      go_ret
      exact ⟨ret_bool (by simp; omega), ((Kept.refl _ _).alloc _).alloc _⟩
  · go_enter Tryz.func50, Tryz.ntmps50
    go_wp2
    go_ret
    exact ⟨ret_bool (by simp; omega), (Kept.refl _ _).alloc _⟩

set_option maxHeartbeats 400000 in
theorem cText_any (w : World) (ι : Nat → Nat) (v : Value) (bs : List Blk) (k : Nat) (hT : Tab w ι v bs) (hk : k < bs.length) (hl : bs.length ≤ 16) :
    Calls Tryz.prog 63 #[.agg #[v], .int .i64 k] w fun e w' => e = .returned (.string bs[k].1) ∧ Kept nothing w w' := by
  obtain ⟨g, cap, rfl, _, hg, hn, hm⟩ := owns_parts hT.row (by omega)
  have hx : bs[k]? = some bs[k] := by simp
  have hc := owns_cell hT.row (pcells_get ι bs k _ hx)
  by_cases h0 : bs[k].2 = 0
  · have Hz : Hid (bs[k].1 = ⟨#[]⟩) := hT.zero _ (by simp) h0
    rw [h0, ptr_zero] at hc
    clear h0 hx hT
    go_enter Tryz.func63, Tryz.ntmps63
    go_wp2
    go_ret
    exact ⟨ret_string Hz.out.symm, (Kept.refl _ _).alloc _⟩
  · have hcl := hT.cell bs[k] (by simp) h0
    rw [ptr_pos ι h0] at hc
    have hct := blk_cell hcl.2 0 rfl
    have hlt := blk_lt hcl.2
    clear h0 hx hT hcl
    go_enter Tryz.func63, Tryz.ntmps63
    go_wp2
    go_ret
    exact ⟨rfl, (Kept.refl _ _).alloc _⟩

theorem made_pcells (ι : Nat → Nat) (n : Nat) : (madeCells (Value.cells (.pointer none)) (n * 1)).toList = pcells ι (List.replicate n (⟨#[]⟩, 0)) := by
  apply List.ext_getElem
  · simp [madeCells, pcells]
  · intro i h1 h2
    simp [madeCells, Value.cells, Nat.mod_one, pcells, ptr_zero]
theorem wp_make_pcells (ι : Nat → Nat) (w : World) {ops : Array Oper} {rest : List Oper} {o : Oper} {a : Act} {Q : Exit → Act → World → Prop}
    (hg : o.guard = none) (l c : Operand) (hop : o.op = Op.makeSlice 68 l c)
    (n : Nat) (hl : a.eval l = .int .i64 n) (hc : a.eval c = .int .i64 n) (b2 : n ≤ 16)
    (hK : ∀ w', w'.ownsRow w.heap.size 151 1 (.slice (some ⟨w.heap.size, 0, none⟩) n n) n (pcells ι (List.replicate n (⟨#[]⟩, 0))) → Kept nothing w w' → wpList Tryz.prog ops Q rest (a.put o.dst (.slice (some ⟨w.heap.size, 0, none⟩) n n)) w') :
    wpList Tryz.prog ops Q (o :: rest) a w := by
  obtain ⟨ib, hib, hz, hsz, hby⟩ := info_parts info_pcell
  refine wpList_make_full w hg l c _ hop w.heap.size 151 ib _ 1 und_pcells hib hz hsz .i64 .i64 n n n hl hc rfl rfl (by rw [hby]; omega) (by simp [maxLen]; omega) (Nat.le_refl _) ?_
  intro w' h1 h2
  refine hK w' (by rw [← made_pcells ι]; exact h1) ((Kept.refl nothing w).grown h2 (by simp))

/-- A block that was laid ahead of a call. -/
theorem Kept.new {S : Nat → Prop} {w w' : World} {k : Nat} {c : Array Value} {t : TypeId} (h : Kept S w w') (hw : w.heap[k]? = some (.cells c t (0, 0))) (hs : ¬ S k) : w'.heap[k]? = some (.cells c t (0, 0)) := h.get hw hs
theorem alloc_at1 (w : World) (o o' : Obj) : ((w.alloc o).alloc o').heap[w.heap.size]? = some o := by
  rw [Below.heap_alloc _ _ _ (by simp)]; exact heap_alloc_new w o
theorem alloc_at2 (w : World) (o o' : Obj) : ((w.alloc o).alloc o').heap[w.heap.size + 1]? = some o' := by
  have := heap_alloc_new (w.alloc o) o'
  simpa using this

set_option maxHeartbeats 400000 in
theorem cEmpty_any (w : World) (n : Nat) (h2 : n ≤ 16) (ι : Nat → Nat) :
    Calls Tryz.prog 47 #[.int .i64 n] w fun e w' => ∃ v, e = .returned (.agg #[v]) ∧ Tab w' ι v (List.replicate n (⟨#[]⟩, 0)) ∧ Kept nothing w w' := by
  go_enter Tryz.func47, Tryz.ntmps47
  go_wp2_with (at_make; refine wp_make_pcells ι _ rfl _ _ rfl n rfl rfl h2 ?_)
  intro w1 ho hk
  have hb := hk.get (heap_alloc_new w (.cells #[.slice none 0 0] 70 (0, 0))) (fun h => h)
  have hc0 := blk_cell hb 0 rfl
  have hf0 := blk_frozen hb 0
  have Ho : Hid (w1.ownsRow (w.heap.size + 1) 151 1 (.slice (some ⟨w.heap.size + 1, 0, none⟩) n n) n (pcells ι (List.replicate n (⟨#[]⟩, 0)))) := by simpa [Hid] using ho
  have HB : Hid (w1.heap[w.heap.size]? = some (.cells #[.slice none 0 0] 70 (0, 0))) := hb
  clear ho hb
  go_wp2
  have hr := blk_cell (blk_set HB.out 0 (.slice (some ⟨w.heap.size + 1, 0, none⟩) n n)) 0 rfl
  refine bodyPost_ret (v := .agg #[.slice (some ⟨w.heap.size + 1, 0, none⟩) n n]) (by simp [results, Tryz.results47, go_sem, hr]) rfl ⟨_, rfl, ?_, ?_⟩
  · refine ⟨?_, by simp, by simp⟩
    rw [List.length_replicate]
    exact owns_kept (owns_weaken Ho.out) ((Kept.refl (fun k => k = w.heap.size) w1).set_at _ _) (fun g hg h => by simp [Value.ownBlock] at hg; omega)
  · exact (((Kept.refl nothing w).alloc _).trans hk).setCell (p := ⟨w.heap.size, 0, none⟩) (.inr (Nat.le_refl _)) _

set_option maxHeartbeats 400000 in
/-- With, where the text is the one that the block has. -/
theorem cWith_same (w : World) (ι : Nat → Nat) (v : Value) (bs : List Blk) (k : Nat) (hT : Tab w ι v bs) (hk : k < bs.length) (hl : bs.length ≤ 16) (text : ByteArray) (he : bs[k].1 = text) :
    Calls Tryz.prog 51 #[.agg #[v], .int .i64 k, .string text] w fun e w' => e = .returned (.agg #[v]) ∧ Kept nothing w w' := by
  obtain ⟨g, cap, rfl, _, hg, hn, hm⟩ := owns_parts hT.row (by omega)
  have hE := str_yes he
  have HT : Hid (Tab w ι (.slice (some ⟨g, 0, none⟩) bs.length cap) bs) := hT
  clear he hT
  go_enter Tryz.func51, Tryz.ntmps51
  go_wp2_with (go_at_call 63; refine (cText_any _ ι _ bs k (HT.out.keptN (((Kept.refl nothing w).alloc _).alloc _)) hk hl).mono ?_)
  rintro e w1 ⟨rfl, hk1⟩
  have hb0 := hk1.get (alloc_at1 w _ _) (fun h => h)
  have hb1 := hk1.get (alloc_at2 w _ _) (fun h => h)
  have hc0 := blk_cell hb0 0 rfl
  have hc1 := blk_cell hb1 0 rfl
  have hf1 := blk_frozen hb1 0
  have HB : Hid (w1.heap[w.heap.size + 1]? = some (.cells #[.slice none 0 0] 70 (0, 0))) := hb1
  clear hb0 hb1
  go_wp2
  have hr := blk_cell (blk_set HB.out 0 (.slice (some ⟨g, 0, none⟩) bs.length cap)) 0 rfl
  refine bodyPost_ret (v := .agg #[.slice (some ⟨g, 0, none⟩) bs.length cap]) (by simp [results, Tryz.results51, go_sem, hr]) rfl ⟨rfl, ?_⟩
  exact ((((Kept.refl nothing w).alloc _).alloc _).trans hk1).setCell (p := ⟨w.heap.size + 1, 0, none⟩) (.inr (by simp)) _

set_option maxHeartbeats 1000000 in
/-- With, where the text is another one. -/
theorem cWith_other (w : World) (ι : Nat → Nat) (v : Value) (bs : List Blk) (k : Nat) (hT : Tab w ι v bs) (hk : k < bs.length) (hl : bs.length ≤ 16) (text : ByteArray) (he : bs[k].1 ≠ text)
    (hs : text.size ≤ 6) (id : Nat) (hid0 : id ≠ 0) (hid : ∀ x ∈ bs, x.2 ≠ id) :
    Calls Tryz.prog 51 #[.agg #[v], .int .i64 k, .string text] w fun e w' => ∃ v', e = .returned (.agg #[v']) ∧ ∃ nb, w.heap.size ≤ nb ∧ Tab w' (upd ι id nb) v' (bs.set k (text, if text = ⟨#[]⟩ then 0 else id)) ∧ Kept nothing w w' := by
  obtain ⟨g, cap, rfl, _, hg, hn, hm⟩ := owns_parts hT.row (by omega)
  have hE := str_no he
  have HT : Hid (Tab w ι (.slice (some ⟨g, 0, none⟩) bs.length cap) bs) := hT
  have Hid1 : Hid (∀ x ∈ bs, x.2 ≠ id) := hid
  clear he hT hid
  go_enter Tryz.func51, Tryz.ntmps51
  go_wp2_with (go_at_call 63; refine (cText_any _ ι _ bs k (HT.out.keptN (((Kept.refl nothing w).alloc _).alloc _)) hk hl).mono ?_)
  rintro e w1 ⟨rfl, hk1⟩
  have hkA : Kept nothing w w1 := (((Kept.refl nothing w).alloc _).alloc _).trans hk1
  have hb0 := hk1.get (alloc_at1 w _ _) (fun h => h)
  have hb1 := hk1.get (alloc_at2 w _ _) (fun h => h)
  have hc0 := blk_cell hb0 0 rfl
  have HB : Hid (w1.heap[w.heap.size + 1]? = some (.cells #[.slice none 0 0] 70 (0, 0))) := hb1
  have HT1 : Hid (Tab w1 ι (.slice (some ⟨g, 0, none⟩) bs.length cap) bs) := HT.out.keptN hkA
  clear hb0 hb1 hk1
  go_wp2_with fail
  refine (slClone_any w1 _ ι bs HT1.out.row (by omega) hl).mono ?_
  rintro e w2 ⟨v2, rfl, ho2, hk2⟩
  obtain ⟨g2, cap2, hv2, hg2, hg2', hn2, hm2⟩ := owns_parts ho2 (by omega)
  subst hv2
  have Ho2 : Hid (w2.ownsRow w1.heap.size 151 1 (.slice (some ⟨g2, 0, none⟩) bs.length cap2) bs.length (pcells ι bs)) := ho2
  clear ho2
  go_wp2_with fail
  refine (hold_any text w2 (by omega)).mono ?_
  rintro e w3 ⟨hA, hB, hk3⟩
  have hsz1 := hkA.size
  have hsz2 := hk2.size
  have Hb3 : Hid (w3.heap[w.heap.size + 1]? = some (.cells #[.slice none 0 0] 70 (0, 0))) := hk3.get (hk2.get HB.out (fun h => h)) (fun h => h)
  have hlt1 := blk_lt HB.out
  have Ho3 : Hid (w3.ownsRow 0 151 1 (.slice (some ⟨g2, 0, none⟩) bs.length cap2) bs.length (pcells ι bs)) := owns_kept (owns_weaken Ho2.out) hk3 (fun _ _ h => h)
  have hx : bs[k]? = some bs[k] := by simp
  have hcg := owns_cell Ho3.out (pcells_get ι bs k _ hx)
  have hfg := owns_frozen Ho3.out k
  have hcr := blk_cell Hb3.out 0 rfl
  have hfr := blk_frozen Hb3.out 0
  have hne : g2 ≠ w.heap.size + 1 := by omega
  have Hk3 : Hid (Kept nothing w w3) := (hkA.trans hk2).trans hk3
  by_cases hemp : text = ⟨#[]⟩
  · have := hA hemp
    subst this
    have Hemp : Hid (text = ⟨#[]⟩) := hemp
    clear hA hB hemp hx
    go_wp2
    have hr := blk_cell (blk_set (w := w3.setCell ⟨g2, k, none⟩ (.pointer none)) (Kept.get ((Kept.refl (fun j => j = g2) w3).set_at k (.pointer none)) Hb3.out (fun h => hne h.symm)) 0 (.slice (some ⟨g2, 0, none⟩) bs.length cap2)) 0 rfl
    refine bodyPost_ret (v := .agg #[.slice (some ⟨g2, 0, none⟩) bs.length cap2]) (by simp [results, Tryz.results51, go_sem, hr]) rfl ⟨_, rfl, w.heap.size, Nat.le_refl _, ?_, ?_⟩
    · have h := tab_put (k := k) (nb := w.heap.size) Ho3.out (HT.out.keptN Hk3.out) Hb3.out hid0 Hid1.out (fun h => absurd Hemp.out h) (.slice (some ⟨g2, 0, none⟩) bs.length cap2) (.pointer none) (by rw [if_pos Hemp.out, ptr_zero])
      rw [if_pos Hemp.out, Hemp.out] at h
      exact h
    · exact (Hk3.out.setCell (p := ⟨g2, k, none⟩) (.inr (by simp; omega)) _).setCell (p := ⟨w.heap.size + 1, 0, none⟩) (.inr (by simp)) _
  · obtain ⟨nb, hnb, hnb1, hnb2⟩ := hB hemp
    subst hnb
    have Hemp : Hid (text ≠ ⟨#[]⟩) := hemp
    clear hA hB hemp hx
    go_wp2
    have hr := blk_cell (blk_set (w := w3.setCell ⟨g2, k, none⟩ (.pointer (some ⟨nb, 0, none⟩))) (Kept.get ((Kept.refl (fun j => j = g2) w3).set_at k (.pointer (some ⟨nb, 0, none⟩))) Hb3.out (fun h => hne h.symm)) 0 (.slice (some ⟨g2, 0, none⟩) bs.length cap2)) 0 rfl
    refine bodyPost_ret (v := .agg #[.slice (some ⟨g2, 0, none⟩) bs.length cap2]) (by simp [results, Tryz.results51, go_sem, hr]) rfl ⟨_, rfl, nb, by omega, ?_, ?_⟩
    · have h := tab_put (k := k) (nb := nb) Ho3.out (HT.out.keptN Hk3.out) Hb3.out hid0 Hid1.out (fun _ => hnb2) (.slice (some ⟨g2, 0, none⟩) bs.length cap2) (.pointer (some ⟨nb, 0, none⟩)) (by rw [if_neg Hemp.out, ptr_pos _ hid0, upd_eq])
      rw [if_neg Hemp.out] at h
      exact h
    · exact (Hk3.out.setCell (p := ⟨g2, k, none⟩) (.inr (by simp; omega)) _).setCell (p := ⟨w.heap.size + 1, 0, none⟩) (.inr (by simp)) _
end Go.Proofs.YtdnjfjdhkmngjaaGreatDoor
