import Derived.Test.YtdnjfjdhkmngjaaGreatDoorF
import Derived.LaidEqlPtr
namespace Go.Proofs.YtdnjfjdhkmngjaaGreatDoor
open Go.RowKit

def InjOn (ι : Nat → Nat) (l : List Nat) : Prop := ∀ c ∈ l, ∀ d ∈ l, c ≠ 0 → d ≠ 0 → ι c = ι d → c = d

theorem und_pcell : Tryz.prog.underlying 151 = some (.pointer 169) := by kernel_rfl
theorem info_cell : (Tryz.prog.info? 169).map (·.size) = some 1 := by kernel_rfl
theorem eql_cells {w : World} {p q : Nat} {cp cq : Array Value} {tp tq : TypeId} (hp : w.heap[p]? = some (.cells cp tp (0, 0))) (hq : w.heap[q]? = some (.cells cq tq (0, 0))) :
    (binOp .eql 151 (.pointer (some ⟨p, 0, none⟩)) (.pointer (some ⟨q, 0, none⟩))).run Tryz.prog w = .ok (.bool (decide (p = q))) w := by
  obtain ⟨j, hj, hjs⟩ := Option.map_eq_some_iff.1 info_cell
  by_cases h : p = q
  · subst h
    simp
    exact run_eql_ptr_same (P := Tryz.prog) w ⟨p, 0, none⟩ und_pcell hj
  · have hne : (⟨p, 0, none⟩ : Addr) ≠ ⟨q, 0, none⟩ := by intro e; exact h (by cases e; rfl)
    simpa [h] using run_eql_ptr_other (P := Tryz.prog) w und_pcell hj (by rw [hjs]; decide) hne hp hq
/-- There is a cell. -/
def CellAt (w : World) (b : Nat) : Prop := ∃ t, w.heap[b]? = some (.cells #[.string t] 169 (0, 0))

set_option maxHeartbeats 400000 in
theorem slIndex_any (w : World) (ι : Nat → Nat) (v : Value) (ds : List Nat) (c : Nat) (hv : w.ownsRow 0 151 1 v ds.length (ds.map (ptr ι))) (hds : ∀ d ∈ ds, d ≠ 0) (hinj : ∀ d ∈ ds, ι c = ι d → c = d) (hat : CellAt w (ι c)) (hats : ∀ d ∈ ds, CellAt w (ι d)) :
    Calls Tryz.prog 102 #[v, .pointer (some ⟨ι c, 0, none⟩)] w fun e w' => ∃ r : Int, e = .returned (.int .i64 r) ∧ (0 ≤ r ↔ c ∈ ds) ∧ w' = w := by
  have hml := owns_len hv
  unfold maxLen at hml
  obtain ⟨sa, cap, rfl, hnc, hcm, hcells⟩ := owns_open hv
  unfold maxLen at hcm
  have Hds : Hid (∀ d ∈ ds, d ≠ 0) := hds
  have Hinj : Hid (∀ d ∈ ds, ι c = ι d → c = d) := hinj
  clear hv hds hinj
  obtain ⟨p, hp⟩ : ∃ p, p = ι c := ⟨_, rfl⟩
  have Hp : Hid (p = ι c) := hp
  rw [← hp] at hat ⊢
  have Hat : Hid (CellAt w p) := hat
  have Hats : Hid (∀ d ∈ ds, CellAt w (ι d)) := hats
  clear hp hat hats
  go_enter Tryz.func102, Tryz.ntmps102
  go_wp2
  go_loop [8] (fun i => ∃ k : Nat, k ≤ ds.length ∧ i = .int .i64 k ∧ ∀ j d, j < k → ds[j]? = some d → d ≠ c) (fun i => ds.length - (intOf i).toNat)
  case atStart => exact ⟨0, Nat.zero_le _, rfl, by intro j d h; omega⟩
  case round =>
    obtain ⟨k, hk, rfl, hall⟩ := hrel
    have HH : Hid (∀ j d, j < k → ds[j]? = some d → d ≠ c) := hall
    clear hall
    by_cases hlt : k < ds.length
    · obtain ⟨g, rfl, hg, hcs⟩ := hcells (by omega)
      have hx : ds[k]? = some ds[k] := by simp
      have hc0 := hcs k (ptr ι ds[k]) (by simp [hlt])
      rw [ptr_pos ι (Hds.out ds[k] (by simp))] at hc0
      clear hcs hcells hx
      obtain ⟨q, hq⟩ : ∃ q, q = ι ds[k] := ⟨_, rfl⟩
      have Hq : Hid (q = ι ds[k]) := hq
      rw [← hq] at hc0
      have hatq : CellAt w q := by rw [hq]; exact Hats.out _ (by simp)
      obtain ⟨tp, htp⟩ := Hat.out
      obtain ⟨tq, htq⟩ := hatq
      have heq := eql_cells htp htq
      clear hq htp htq
      by_cases he : p = q
      · have Hcd : Hid (c = ds[k]) := Hinj.out ds[k] (by simp) (by rw [← Hp.out, ← Hq.out]; exact he)
        have hd : decide (p = q) = true := by simp [he]
        rw [hd] at heq
        clear he hd
        go_wp2
        go_ret
        exact ⟨(k : Int), rfl, ⟨fun _ => by rw [Hcd.out]; simp, fun _ => by omega⟩, rfl⟩
      · have Hcd : Hid (ds[k] ≠ c) := fun h => he (by rw [Hp.out, Hq.out, h])
        have hd : decide (p = q) = false := by simp [he]
        rw [hd] at heq
        clear he hd
        go_wp2
        go_round
        case rel =>
          refine ⟨k + 1, by omega, by go_num, fun j d hj hd => ?_⟩
          by_cases hjk : j < k
          · exact HH.out j d hjk hd
          · have : j = k := by omega
            subst this
            simp [hlt] at hd
            subst hd
            exact Hcd.out
        case measure => simp [intOf]; omega
    · go_wp2
      go_ret
      refine ⟨-1, rfl, ?_, rfl⟩
      constructor
      · intro h; omega
      · intro h
        obtain ⟨j, hj, hjd⟩ := List.getElem_of_mem h
        exact absurd hjd (HH.out j _ (by omega) (by simp))

set_option maxHeartbeats 400000 in
theorem slContains_any (w : World) (ι : Nat → Nat) (v : Value) (ds : List Nat) (c : Nat) (hv : w.ownsRow 0 151 1 v ds.length (ds.map (ptr ι))) (hds : ∀ d ∈ ds, d ≠ 0) (hinj : ∀ d ∈ ds, ι c = ι d → c = d) (hat : CellAt w (ι c)) (hats : ∀ d ∈ ds, CellAt w (ι d)) :
    Calls Tryz.prog 81 #[v, .pointer (some ⟨ι c, 0, none⟩)] w fun e w' => e = .returned (.bool (decide (c ∈ ds))) ∧ w' = w := by
  have Hcall : Hid (Calls Tryz.prog 102 #[v, .pointer (some ⟨ι c, 0, none⟩)] w fun e w' => ∃ r : Int, e = .returned (.int .i64 r) ∧ (0 ≤ r ↔ c ∈ ds) ∧ w' = w) := slIndex_any w ι v ds c hv hds hinj hat hats
  generalize ι c = p at Hcall
  clear hv hds hinj hat hats
  go_enter Tryz.func81, Tryz.ntmps81
  go_wp2_with fail
  refine Hcall.out.mono ?_
  rintro e w' ⟨r, rfl, hr, rfl⟩
  have Hr : Hid (0 ≤ r ↔ c ∈ ds) := hr
  clear hr
  go_wp2
  all_goals (go_ret; exact ⟨ret_bool (by rw [Bool.eq_iff_iff]; simp [← Hr.out]), rfl⟩)

theorem und_tables : Tryz.prog.underlying 107 = some (.slice 70) := by kernel_rfl
theorem info_table : (Tryz.prog.info? 70).map (fun i => (i.zero, i.size, i.bytes)) = some (some (.agg #[.slice none 0 0]), 1, 24) := by kernel_rfl

/-- A table's slice and its blocks. -/
abbrev TV := Value × List Blk
abbrev tids (tv : List TV) : List Nat := tv.flatMap fun t => t.2.map (·.2)
theorem tids_take_succ (tv : List TV) (k : Nat) (h : k < tv.length) : tids (tv.take (k + 1)) = tids (tv.take k) ++ tv[k].2.map (·.2) := by
  unfold tids
  rw [List.take_succ_eq_append_getElem h, List.flatMap_append]; simp
theorem distinct_map_snoc {ι : Nat → Nat} (m : List Nat) (c : Nat) (h : c ≠ 0 ∧ c ∉ distinct m) : (distinct (m ++ [c])).map (ptr ι) = (distinct m).map (ptr ι) ++ [ptr ι c] := by
  rw [distinct_snoc, addNew, if_neg (by simp [h.1, h.2])]; simp
theorem distinct_same (m : List Nat) (c : Nat) (h : c = 0 ∨ c ∈ distinct m) : distinct (m ++ [c]) = distinct m := by
  rw [distinct_snoc, addNew, if_pos h]

theorem distinct_len (l : List Nat) : (distinct l).length ≤ l.length := by
  refine foldl_snoc_ind (P := fun l => (distinct l).length ≤ l.length) (by simp [distinct]) (fun l x ih => ?_) l
  rw [distinct_snoc, addNew]
  split <;> simp <;> omega
theorem tids_len (tv : List TV) (h : ∀ t ∈ tv, t.2.length ≤ 16) : (tids tv).length ≤ tv.length * 16 := by
  induction tv with
  | nil => simp [tids]
  | cons t l ih =>
    have h1 := h t (by simp)
    have h2 := ih (fun t ht => h t (by simp [ht]))
    simp only [tids, List.flatMap_cons, List.length_append, List.length_map, List.length_cons] at h2 ⊢
    omega

set_option maxRecDepth 100000 in
set_option maxHeartbeats 2000000 in
theorem cUsed_any (w : World) (ι : Nat → Nat) (v : Value) (tv : List TV) (hv : w.ownsRow 0 70 1 v tv.length (tv.map (·.1))) (htab : ∀ t ∈ tv, Tab w ι t.1 t.2) (hlen : ∀ t ∈ tv, t.2.length ≤ 16) (hn : tv.length ≤ 8) (hinj : InjOn ι (tids tv)) :
    Calls Tryz.prog 55 #[v] w fun e w' => e = .returned (.int .i64 (usedN (tids tv))) ∧ Kept nothing w w' := by
  obtain ⟨sa, cap, rfl, hnc, hcm, hcells⟩ := owns_open hv
  unfold maxLen at hcm
  have Htab : Hid (∀ t ∈ tv, Tab w ι t.1 t.2) := htab
  have Hlen : Hid (∀ t ∈ tv, t.2.length ≤ 16) := hlen
  have Hinj : Hid (InjOn ι (tids tv)) := hinj
  clear hv htab hlen hinj
  go_enter Tryz.func55, Tryz.ntmps55
  go_wp2
  go_loopw [3, 10] (fun f i wr => ∃ k : Nat, k ≤ tv.length ∧ i = .int .i64 k ∧ wr.ownsRow w.heap.size 151 1 f (distinct (tids (tv.take k))).length ((distinct (tids (tv.take k))).map (ptr ι)) ∧ Kept nothing w wr) (fun _ i _ => tv.length - (intOf i).toNat)
  case atStart => exact ⟨0, Nat.zero_le _, rfl, World.ownsRow_nil _ _ _ _, Kept.refl _ _⟩
  case round =>
    obtain ⟨k, hk, rfl, how, hkp⟩ := hrel
    by_cases hlt : k < tv.length
    · obtain ⟨g, rfl, hg, hcs⟩ := hcells (by omega)
      have hc0 := (hkp.cell (p := ⟨g, k, none⟩) hg (fun h => h)).trans (hcs k tv[k].1 (by simp [hlt]))
      have hT := Htab.out tv[k] (by simp)
      have htl := Hlen.out tv[k] (by simp)
      have Hts : Hid (tids (tv.take (k + 1)) = tids (tv.take k) ++ tv[k].2.map (·.2)) := tids_take_succ tv k hlt
      have Hsub : Hid (∀ c ∈ tids (tv.take k) ++ tv[k].2.map (·.2), c ∈ tids tv) := by
        intro c hc
        rw [← Hts.out] at hc
        simp only [tids, List.mem_flatMap] at hc ⊢
        obtain ⟨t, ht, h⟩ := hc
        exact ⟨t, List.mem_of_mem_take ht, h⟩
      obtain ⟨wo, hwo⟩ : ∃ wo, wo = wr := ⟨_, rfl⟩
      subst hwo
      have Hml : Hid ((tids (tv.take k)).length ≤ 128) := by
        have := tids_len (tv.take k) (fun t ht => Hlen.out t (List.mem_of_mem_take ht))
        rw [List.length_take] at this
        show _ ≤ _
        omega
      generalize tids (tv.take k) = m at how Hts Hsub Hml
      generalize tv[k].2 = ts at hT htl Hts Hsub
      generalize tv[k].1 = v1 at hc0 hT
      obtain ⟨ta, tcap, rfl, htn, htm, htc⟩ := owns_open hT.row
      unfold maxLen at htm
      have HT : Hid (Tab w ι (.slice ta ts.length tcap) ts) := hT
      have How : Hid (wo.ownsRow w.heap.size 151 1 u3 (distinct m).length ((distinct m).map (ptr ι))) := how
      have Htc : Hid (0 < ts.length → ∃ g, ta = some ⟨g, 0, none⟩ ∧ g < w.heap.size ∧ ∀ j u, (pcells ι ts)[j]? = some u → w.cell? ⟨g, j, none⟩ = some u) := htc
      clear hcs hcells hT how htc
      go_wp2
      go_loopw [3, 17] (fun f i wx => ∃ j : Nat, j ≤ ts.length ∧ i = .int .i64 j ∧ wx.ownsRow w.heap.size 151 1 f (distinct (m ++ (ts.take j).map (·.2))).length ((distinct (m ++ (ts.take j).map (·.2))).map (ptr ι)) ∧ Kept nothing w wx) (fun _ i _ => ts.length - (intOf i).toNat)
      case atStart => exact ⟨0, Nat.zero_le _, rfl, by simpa using How.out.alloc _, hkp.alloc _⟩
      case round =>
        clear How
        obtain ⟨j, hj, rfl, how, hkx⟩ := hrel
        by_cases hjl : j < ts.length
        · obtain ⟨g1, hta, hg1, hcs⟩ := Htc.out (by omega)
          subst hta
          have hx : ts[j]? = some ts[j] := by simp
          have hcj := (hkx.cell (p := ⟨g1, j, none⟩) hg1 (fun h => h)).trans (hcs j _ (pcells_get ι ts j _ hx))
          have Htk : Hid ((ts.take (j + 1)).map (·.2) = (ts.take j).map (·.2) ++ [ts[j].2]) := ids_take_succ ts j hjl
          have Hin : Hid (ts[j].2 ∈ tids tv) := Hsub.out _ (by rw [List.mem_append]; exact .inr (List.mem_map_of_mem (by simp)))
          have HcellJ : Hid (ts[j].2 ≠ 0 → CellAt wr (ι ts[j].2)) := fun h0 => ⟨ts[j].1, hkx.get (HT.out.cell ts[j] (by simp) h0).2 (fun h => h)⟩
          have HM : Hid (∀ d ∈ m ++ (ts.take j).map (·.2), d ∈ tids tv) := by
            intro d hd
            refine Hsub.out d ?_
            rw [List.mem_append] at hd ⊢
            rcases hd with h | h
            · exact .inl h
            · simp only [List.mem_map] at h ⊢
              obtain ⟨x, hx, rfl⟩ := h
              exact .inr ⟨x, List.mem_of_mem_take hx, rfl⟩
          have HMl : Hid ((m ++ (ts.take j).map (·.2)).length ≤ 144) := by
            have := Hml.out
            simp only [List.length_append, List.length_map, List.length_take]
            show _ ≤ _
            omega
          generalize ts[j].2 = c at hcj Htk Hin HcellJ
          have HD : Hid (∀ d ∈ distinct (m ++ (ts.take j).map (·.2)), d ≠ 0 ∧ d ∈ tids tv ∧ CellAt wr (ι d)) := by
            intro d hd
            have hd' := (distinct_mem _ _).1 hd
            refine ⟨hd'.1, HM.out d hd'.2, ?_⟩
            obtain ⟨t, ht, hdt⟩ := List.mem_flatMap.1 (HM.out d hd'.2)
            obtain ⟨b, hb, rfl⟩ := List.mem_map.1 hdt
            exact ⟨b.1, hkx.get ((Htab.out t ht).cell b hb hd'.1).2 (fun h => h)⟩
          have hdl : (distinct (m ++ (ts.take j).map (·.2))).length ≤ 144 := Nat.le_trans (distinct_len _) HMl.out
          have Hnext1 : Hid (c = 0 ∨ c ∈ distinct (m ++ (ts.take j).map (·.2)) → distinct (m ++ (ts.take (j + 1)).map (·.2)) = distinct (m ++ (ts.take j).map (·.2))) := by
            intro h; rw [Htk.out, ← List.append_assoc]; exact distinct_same _ _ h
          have Hnext2 : Hid (c ≠ 0 ∧ c ∉ distinct (m ++ (ts.take j).map (·.2)) → distinct (m ++ (ts.take (j + 1)).map (·.2)) = distinct (m ++ (ts.take j).map (·.2)) ++ [c]) := by
            intro h; rw [Htk.out, ← List.append_assoc, distinct_snoc, addNew, if_neg (fun e => e.elim h.1 h.2)]
          have How : Hid (wr.ownsRow w.heap.size 151 1 u3 (distinct (m ++ (ts.take j).map (·.2))).length ((distinct (m ++ (ts.take j).map (·.2))).map (ptr ι))) := how
          generalize distinct (m ++ (ts.take j).map (·.2)) = D at HD hdl Hnext1 Hnext2 How
          clear how HM HMl Htk hcs hx
          by_cases h0 : c = 0
          · have Hn : Hid (distinct (m ++ (ts.take (j + 1)).map (·.2)) = D) := Hnext1.out (.inl h0)
            rw [h0, ptr_zero] at hcj
            clear Hnext1 Hnext2 Hin HcellJ h0
            go_wp2
            go_roundw
            case rel => exact ⟨j + 1, by omega, by go_num, by rw [Hn.out]; exact How.out, hkx⟩
            case measure => simp [intOf]; omega
          · rw [ptr_pos ι h0] at hcj
            have Hcall : Hid (Calls Tryz.prog 81 #[u3, .pointer (some ⟨ι c, 0, none⟩)] wr fun e w' => e = .returned (.bool (decide (c ∈ D))) ∧ w' = wr) :=
              slContains_any wr ι u3 D c (owns_weaken How.out) (fun d hd => (HD.out d hd).1) (fun d hd he => Hinj.out c Hin.out d (HD.out d hd).2.1 h0 (HD.out d hd).1 he) (HcellJ.out h0) (fun d hd => (HD.out d hd).2.2)
            have Hptr : Hid (ptr ι c = .pointer (some ⟨ι c, 0, none⟩)) := ptr_pos ι h0
            by_cases hD : c ∈ D
            · have Hn : Hid (distinct (m ++ (ts.take (j + 1)).map (·.2)) = D) := Hnext1.out (.inr hD)
              have hd : decide (c ∈ D) = true := by simp [hD]
              rw [hd] at Hcall
              clear Hnext1 Hnext2 Hin HcellJ h0 hD hd HD
              generalize ι c = p at hcj Hcall
              go_wp2_with (go_at_call 81; refine Hcall.out.mono ?_; rintro e w' ⟨rfl, rfl⟩)
              go_roundw
              case rel => exact ⟨j + 1, by omega, by go_num, by rw [Hn.out]; exact How.out, hkx⟩
              case measure => simp [intOf]; omega
            · have Hn : Hid (distinct (m ++ (ts.take (j + 1)).map (·.2)) = D ++ [c]) := Hnext2.out ⟨h0, hD⟩
              have hd : decide (c ∈ D) = false := by simp [hD]
              rw [hd] at Hcall
              clear Hnext1 Hnext2 Hin HcellJ h0 hD hd HD
              generalize ι c = p at hcj Hcall Hptr
              have hszx := hkx.size
              go_wp2_with (first | (go_at_call 81; refine Hcall.out.mono ?_; rintro e w' ⟨rfl, rfl⟩) | (at_builtin; refine wp_append _ _ _ 1 8 und_pcells info_pcell rfl (by decide) (by decide) _ rfl _ _ rfl w.heap.size u3 D.length (D.map (ptr ι)) rfl (How.out.alloc _) ⟨_, 0, none⟩ 1 1 [.pointer (some ⟨p, 0, none⟩)] rfl rfl (cell_one_new _ _ _) ?_ ?_ ?_ ?_))
              · simp [Value.oneCell']
              · omega
              · simp; omega
              intro v2 w2 ho2 hg2 _
              have Ho2 : Hid (w2.ownsRow w.heap.size 151 1 v2 (D ++ [c]).length ((D ++ [c]).map (ptr ι))) := by
                rw [List.map_append, List.map_cons, List.map_nil, Hptr.out, List.length_append]; exact ho2
              have Hk2 : Hid (Kept nothing w w2) := (hkx.alloc _).grown hg2 (fun k hk => .inr (owns_above How.out hk))
              clear ho2 hg2
              go_wp2
              go_roundw
              case rel => exact ⟨j + 1, by omega, by go_num, by rw [Hn.out]; exact Ho2.out, Hk2.out⟩
              case measure => simp [intOf]; omega
        · have hje : j = ts.length := by omega
          have How : Hid (wr.ownsRow w.heap.size 151 1 u3 (distinct (tids (tv.take (k + 1)))).length ((distinct (tids (tv.take (k + 1)))).map (ptr ι))) := by
            rw [Hts.out]; rw [hje, List.take_length] at how; exact how
          clear how hje
          go_wp2
          go_roundw
          case rel => exact ⟨k + 1, by omega, by go_num, How.out, hkx⟩
          case measure => simp [intOf]; omega
    · have hke : k = tv.length := by omega
      have How : Hid (wr.ownsRow w.heap.size 151 1 u3 (usedN (tids tv)) ((distinct (tids tv)).map (ptr ι))) := by
        rw [hke, List.take_length] at how; exact how
      clear how hke hcells
      obtain ⟨a3, c3, hv3, _, _, _⟩ := owns_open (owns_weaken How.out)
      subst hv3
      go_wp2
      go_ret
      exact ⟨rfl, hkp⟩
end Go.Proofs.YtdnjfjdhkmngjaaGreatDoor
