import Derived.Test.YtdnjfjdhkmngjaaGreatDoorSA
namespace Go.Proofs.YtdnjfjdhkmngjaaGreatDoor
open Go.RowKit

theorem foldl_push (l : List UInt8) : ∀ acc : ByteArray, (l.map fun b => (b.toNat : Int)).foldl (fun r n => r.push (UInt8.ofNat n.toNat)) acc = ⟨acc.data ++ l.toArray⟩ := by
  induction l with
  | nil => intro acc; cases acc; simp
  | cons b l ih =>
    intro acc
    simp only [List.map_cons, List.foldl_cons, Int.toNat_natCast, UInt8.ofNat_toNat]
    rw [ih]
    cases acc
    simp [ByteArray.push]
/-- A row of bytes as a string. -/
theorem conv_bytes (w : World) (v : Value) (l : List UInt8) (hv : w.ownsRow 0 5 1 v l.length (bcells l)) (h1 : 1 ≤ l.length) : (convert 41 9 v).run Tryz.prog w = .ok (.string (bstr l)) w := by
  obtain ⟨g, cap, rfl, _, hg, _, _⟩ := owns_parts hv h1
  rw [run_convert_bytes_string _ _ _ 5 _ _ _ und_bytes und_u8 und_str]
  have hload : (loadCells ⟨g, 0, none⟩ l.length).run Tryz.prog w = .ok ((l.map fun b => (b.toNat : Int)).map (Value.int .u8)).toArray w := by
    have h := run_loadCells_list (P := Tryz.prog) (w := w) ⟨g, 0, none⟩ (bcells l) (fun j u hu => owns_cell_at hv hu)
    rw [bcells_len, Nat.mul_one] at h
    rw [h]
    simp [Lib.byteCells]
  rw [run_bytesToString _ _ _ _ _ hload, foldl_push]
  simp [bstr, ByteArray.empty, ByteArray.emptyWithCapacity]
  rfl

theorem recL_len16 (head : List UInt8) (old new : List ByteArray) (h : ∀ t ∈ new, t.size ≤ 6) (k : Nat) (hk : k ≤ 16) (hh : head.length ≤ 8) : (head ++ recL old new k).length ≤ 136 := by
  have := recL_len old new h k
  simp only [List.length_append]; omega

set_option maxRecDepth 100000 in
set_option maxHeartbeats 2000000 in
theorem finish_any (w : World) (base : Nat) (vh vo vt : Value) (head : List UInt8) (old new : List ByteArray) (hh : w.ownsRow base 5 1 vh head.length (bcells head)) (hb : base ≤ w.heap.size) (hhl : head.length ≤ 8)
    (ho : w.ownsRow 0 9 1 vo old.length (strsOf old)) (hn : w.ownsRow 0 9 1 vt new.length (strsOf new)) (hlen : old.length = new.length) (hl : new.length ≤ 16) (hsm : ∀ t ∈ new, t.size ≤ 6) :
    Calls Tryz.prog 79 #[vh, vo, vt] w fun e w' => e = .returned (.string (bstr (finishL head old new))) ∧ Kept (bytesB w base) w w' := by
  obtain ⟨oa, ocap, rfl, honc, hocm, hocells⟩ := owns_open ho
  obtain ⟨na, ncap, rfl, hnnc, hncm, hncells⟩ := owns_open hn
  unfold maxLen at hocm hncm
  have Ho : Hid (w.ownsRow 0 9 1 (.slice oa old.length ocap) old.length (strsOf old)) := ho
  have Hn : Hid (w.ownsRow 0 9 1 (.slice na new.length ncap) new.length (strsOf new)) := hn
  have Hh : Hid (w.ownsRow base 5 1 vh head.length (bcells head)) := hh
  have Hsm : Hid (∀ t ∈ new, t.size ≤ 6) := hsm
  have Hoc : Hid (0 < old.length → ∃ g, oa = some ⟨g, 0, none⟩ ∧ g < w.heap.size ∧ ∀ j u, (strsOf old)[j]? = some u → w.cell? ⟨g, j, none⟩ = some u) := hocells
  have Hnc : Hid (0 < new.length → ∃ g, na = some ⟨g, 0, none⟩ ∧ g < w.heap.size ∧ ∀ j u, (strsOf new)[j]? = some u → w.cell? ⟨g, j, none⟩ = some u) := hncells
  rw [hlen] at honc
  clear ho hn hh hsm hocells hncells
  have hlen' := hlen
  have Hlen : Hid (old.length = new.length) := hlen
  clear hlen hlen'
  go_enter Tryz.func79, Tryz.ntmps79
  go_wp2
  go_loopw [7, 13] (fun f i wr => ∃ k : Nat, k ≤ new.length ∧ i = .int .i64 k ∧ wr.ownsRow base 5 1 f (head ++ recL old new k).length (bcells (head ++ recL old new k)) ∧ Kept (bytesB w base) w wr) (fun _ i _ => new.length - (intOf i).toNat)
  case atStart => exact ⟨0, Nat.zero_le _, rfl, by simpa [recL] using Hh.out, Kept.refl _ _⟩
  case round =>
    obtain ⟨k, hk, rfl, how, hkp⟩ := hrel
    have hbl := recL_len16 head old new Hsm.out k (by omega) hhl
    have How : Hid (wr.ownsRow base 5 1 u7 (head ++ recL old new k).length (bcells (head ++ recL old new k))) := how
    have hbr : base ≤ wr.heap.size := Nat.le_trans hb hkp.size
    clear how
    by_cases hlt : k < new.length
    · have hlo : k < old.length := by rw [Hlen.out]; exact hlt
      obtain ⟨go, hoa, hgo, hco⟩ := Hoc.out (by omega)
      subst hoa
      obtain ⟨gn, hna, hgn, hcn⟩ := Hnc.out (by omega)
      subst hna
      have tagO : ¬ bytesB w base go := by
        rintro ⟨_, cur, hc⟩
        obtain ⟨cur', hc'⟩ := owns_tag Ho.out (g := go) rfl
        exact blk_ne hc hc' (by decide) rfl
      have tagN : ¬ bytesB w base gn := by
        rintro ⟨_, cur, hc⟩
        obtain ⟨cur', hc'⟩ := owns_tag Hn.out (g := gn) rfl
        exact blk_ne hc hc' (by decide) rfl
      have c0 := (hkp.cell (p := ⟨gn, k, none⟩) hgn tagN).trans (hcn k (.string new[k]) (by simp [hlt]))
      have c1 := (hkp.cell (p := ⟨go, k, none⟩) hgo tagO).trans (hco k (.string old[k]) (by simp [hlo]))
      have htl := Hsm.out new[k] (by simp)
      have b1 : (k : Int) < (old.length : Int) := by omega
      have Hrec : Hid (recL old new (k + 1) = recL old new k ++ (if new[k] = old[k] then [] else UInt8.ofNat (k + 1) :: textL new[k])) := by
        show recL old new k ++ recOf old new k = _
        unfold recOf
        simp only [List.getElem?_eq_getElem hlt, List.getElem?_eq_getElem hlo, Option.getD_some]
      generalize new[k] = tn at c0 htl Hrec
      generalize old[k] = to at c1 Hrec
      clear hco hcn tagO tagN
      by_cases he : tn = to
      · have hE := str_yes he
        have Hr : Hid (recL old new (k + 1) = recL old new k) := by rw [Hrec.out, if_pos he, List.append_nil]; exact rfl
        clear he Hrec
        go_wp2
        go_roundw
        case rel => exact ⟨k + 1, by omega, by go_num, by rw [Hr.out]; exact How.out, hkp⟩
        case measure => simp [intOf]; omega
      · have hE := str_no he
        have Hr : Hid (head ++ recL old new (k + 1) = head ++ recL old new k ++ [UInt8.ofNat (k + 1)] ++ textL tn) := by
          show _ = _
          rw [Hrec.out, if_neg he]; simp
        clear he Hrec
        generalize head ++ recL old new k = M at How hbl Hr
        go_wp2_with (at_builtin; refine wp_append _ _ _ 1 1 und_bytes info_byte rfl (by decide) (by decide) _ rfl _ _ rfl base u7 M.length (bcells M) rfl (How.out.alloc _) ⟨wr.heap.size, 0, none⟩ 1 1 [.int .u8 ((k : Int) + 1)] rfl rfl (news_at _ _ _) ?_ ?_ ?_ ?_)
        · simp [Value.oneCell']
        · omega
        · simp; omega
        intro v1 w1 ho1 hg1 _
        have hk1 : Kept (bytesB w base) w w1 := (hkp.alloc _).bytesGrown (How.out.alloc _) hg1
        have ho1' : w1.ownsRow base 5 1 v1 (M ++ [UInt8.ofNat (k + 1)]).length (bcells (M ++ [UInt8.ofNat (k + 1)])) := by
          rw [bcells_append, show bcells [UInt8.ofNat (k + 1)] = [.int .u8 ((k : Int) + 1)] from bcells_of [k + 1] (by simp; omega)]; simpa using ho1
        have Hcall : Hid (Calls Tryz.prog 98 #[v1, .string tn] w1 fun e w' => ∃ v', e = .returned v' ∧ w'.ownsRow base 5 1 v' (M ++ [UInt8.ofNat (k + 1)] ++ textL tn).length (bcells (M ++ [UInt8.ofNat (k + 1)] ++ textL tn)) ∧ Kept (bytesB w1 base) w1 w') :=
          appendText_any w1 base v1 _ tn ho1' (by simp; omega) htl (Nat.le_trans hb hk1.size)
        clear ho1 hg1 ho1'
        go_wp2_with (go_at_call 98; refine Hcall.out.mono ?_; rintro e w' ⟨v', rfl, ho', hk'⟩)
        go_roundw
        case rel => exact ⟨k + 1, by omega, by go_num, by rw [Hr.out]; exact ho', hk1.bytes hk'⟩
        case measure => simp [intOf]; omega
    · have hke : k = new.length := by omega
      have Hbody : Hid (head ++ recL old new k ++ [0] = bodyL head old new) := by show _ = _; rw [hke]; rfl
      generalize head ++ recL old new k = M at How hbl Hbody
      clear hke
      go_wp2_with (at_builtin; refine wp_append _ _ _ 1 1 und_bytes info_byte rfl (by decide) (by decide) _ rfl _ _ rfl base u7 M.length (bcells M) rfl (How.out.alloc _) ⟨wr.heap.size, 0, none⟩ 1 1 [.int .u8 0] rfl rfl (news_at _ _ _) ?_ ?_ ?_ ?_)
      · simp [Value.oneCell']
      · omega
      · simp; omega
      intro v1 w1 ho1 hg1 _
      have hk1 : Kept (bytesB w base) w w1 := (hkp.alloc _).bytesGrown (How.out.alloc _) hg1
      have ho1' : w1.ownsRow base 5 1 v1 (M ++ [0]).length (bcells (M ++ [0])) := by
        rw [bcells_append, show bcells [0] = [.int .u8 0] from rfl]; simpa using ho1
      rw [Hbody.out] at ho1'
      have hbl1 : (bodyL head old new).length ≤ 137 := by rw [← Hbody.out]; simp; omega
      have Hfin : Hid (finishL head old new = bodyL head old new ++ sum4 (fnvL (bodyL head old new))) := rfl
      generalize bodyL head old new = B at ho1' hbl1 Hfin
      have hlt4 := fnvL_lt B
      have Hcall : Hid (Calls Tryz.prog 100 #[v1] w1 fun e w' => e = .returned (.int .u32 (fnvL B : Nat)) ∧ w' = w1) := sumOf_any w1 v1 B (owns_weaken ho1') (by omega)
      generalize fnvL B = H at Hfin Hcall hlt4
      have Hcall2 : Hid (Calls Tryz.prog 99 #[v1, .int .u32 H] w1 fun e w' => ∃ v', e = .returned v' ∧ w'.ownsRow base 5 1 v' (B ++ sum4 H).length (bcells (B ++ sum4 H)) ∧ Kept (bytesB w1 base) w1 w') := appendSum_any w1 base v1 B H ho1' (by omega) hlt4 (Nat.le_trans hb hk1.size)
      clear ho1 hg1 ho1' Hbody
      go_wp2_with (first | (go_at_call 100; refine Hcall.out.mono ?_; rintro e w' ⟨rfl, rfl⟩))
      go_wp2_with fail
      refine Hcall2.out.mono ?_
      rintro e w2 ⟨v2, rfl, ho2, hk2⟩
      have hcv := conv_bytes w2 v2 (B ++ sum4 H) (owns_weaken ho2) (by simp [sum4_len])
      clear ho2
      go_wp2
      go_ret
      exact ⟨ret_string (by rw [Hfin.out]), hk1.bytes hk2⟩
end Go.Proofs.YtdnjfjdhkmngjaaGreatDoor
