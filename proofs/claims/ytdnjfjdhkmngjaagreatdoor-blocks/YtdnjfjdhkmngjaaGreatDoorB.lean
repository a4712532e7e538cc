import Derived.Test.YtdnjfjdhkmngjaaGreatDoorChecked
import Derived.Test.YtdnjfjdhkmngjaaGreatDoorM2
import Derived.WalkKit
import Derived.WalkSpells
import Derived.WalkLawsBesides
namespace Go.Proofs.YtdnjfjdhkmngjaaGreatDoor
open Go.RowKit

set_option maxHeartbeats 400000 in
theorem rfind_any (a : Nat) (name : ByteArray) (w : World) (vs : Value) (sv : List SV)
    (hv : w.cell? ⟨a, 2, none⟩ = some vs)
    (hsn : w.ownsRow 0 143 2 vs sv.length (scells sv)) :
    Calls Tryz.prog 90 #[.pointer (some ⟨a, 0, none⟩), .string name] w fun e w' => e = .returned (.int .i64 (findF (sv.map SV.out) name)) ∧ w' = w := by
  have hml := owns_len hsn
  unfold maxLen at hml
  obtain ⟨sa, cap, rfl, hnc, hcm, hcells⟩ := owns_open hsn
  unfold maxLen at hcm
  clear hsn
  go_enter Tryz.func90, Tryz.ntmps90
  go_wp2
  go_loop [5] (fun i => ∃ k : Nat, k ≤ sv.length ∧ i = .int .i64 k ∧ ∀ j y, j < k → (sv.map SV.out)[j]? = some y → y.1 ≠ name) (fun i => sv.length - (intOf i).toNat)
  case atStart => exact ⟨0, Nat.zero_le _, rfl, by intro j y h; omega⟩
  case round =>
    obtain ⟨k, hk, rfl, hall⟩ := hrel
    have HH : Hid (∀ j y, j < k → (sv.map SV.out)[j]? = some y → y.1 ≠ name) := hall
    clear hall
    by_cases hlt : k < sv.length
    · obtain ⟨g, rfl, hg, hc⟩ := hcells (by omega)
      have hx : sv[k]? = some sv[k] := by simp
      have hc0 := hc (k * 2) _ (pairs_get (fun t : SV => .string t.1) (fun t => t.2.1) sv k _ hx).1
      clear hc hcells
      go_wp2
      · go_ret
        refine ⟨ret_int (findF_hit _ _ k (SV.out sv[k]) (by simp [hlt]) (str_of_yes ‹_›) (fun j y hj hy => HH.out j y hj hy)).symm, rfl⟩
      · go_round
        case rel =>
          refine ⟨k + 1, by omega, by go_num, fun j y hj hy => ?_⟩
          by_cases hjk : j < k
          · exact HH.out j y hjk hy
          · have : j = k := by omega
            subst this
            simp [hlt] at hy
            subst hy
            exact str_of_no ‹_›
        case measure => simp [intOf]; omega
    · go_wp2
      go_ret
      refine ⟨ret_int (findF_miss _ _ (fun j y hj => HH.out j y ?_)).symm, rfl⟩
      simp at hj; omega

theorem info_bool : (Tryz.prog.info? 4).map (fun i => (i.zero, i.size, i.bytes)) = some (some (.bool false), 1, 1) := by kernel_rfl
theorem und_bools : Tryz.prog.underlying 204 = some (.slice 4) := by kernel_rfl
theorem made_bools (n : Nat) : (madeCells (Value.cells (.bool false)) (n * 1)).toList = hasCells n [] := by
  rw [hasCells_nil]
  apply List.ext_getElem
  · simp [madeCells]
  · intro i h1 h2
    simp [madeCells, Value.cells, Nat.mod_one]

theorem wp_make_bools (w : World) {ops : Array Oper} {rest : List Oper} {o : Oper} {a : Act} {Q : Exit → Act → World → Prop}
    (hg : o.guard = none) (l c : Operand) (hop : o.op = Op.makeSlice 204 l c)
    (L C : Int) (n : Nat) (hl : a.eval l = .int .i64 L) (hc : a.eval c = .int .i64 C) (hL : L = (n : Int)) (hC : C = (n : Int)) (b2 : n ≤ 140737488355328)
    (hK : ∀ w', w'.ownsRow 0 4 1 (.slice (some ⟨w.heap.size, 0, none⟩) n n) n (hasCells n []) → Kept nothing w w' → wpList Tryz.prog ops Q rest (a.put o.dst (.slice (some ⟨w.heap.size, 0, none⟩) n n)) w') :
    wpList Tryz.prog ops Q (o :: rest) a w := by
  obtain ⟨ib, hib, hz, hsz, hby⟩ := info_parts info_bool
  refine wpList_make_full w hg l c _ hop 0 4 ib (.bool false) 1 und_bools hib hz hsz .i64 .i64 L C n hl hc hL hC (by rw [hby]; omega) (by simp [maxLen]; omega) (Nat.zero_le _) ?_
  intro w' h1 h2
  refine hK w' (by rw [← made_bools]; exact h1) ((Kept.refl nothing w).grown h2 (by simp))

set_option maxRecDepth 100000 in
set_option maxHeartbeats 1000000 in
theorem rused_any (a : Nat) (last : Nat) (w : World) (vb vs : Value) (bs : List Blk) (sv : List SV)
    (hl : w.cell? ⟨a, 3, none⟩ = some (.int .i64 last)) (hlast : last + 100 ≤ 140737488355328)
    (hbs : w.ownsRow 0 173 2 vb bs.length (rcells bs))
    (hsn : w.ownsRow 0 143 2 vs sv.length (scells sv))
    (heach : ∀ t ∈ sv, w.ownsRow 0 173 2 t.2.1 t.2.2.length (rcells t.2.2))
    (hid : ∀ x ∈ bs, x.2 ≤ last + 1) (hids : ∀ t ∈ sv, ∀ x ∈ t.2.2, x.2 ≤ last + 1) :
    Calls Tryz.prog 91 #[.pointer (some ⟨a, 0, none⟩), vb, vs] w fun e w' => e = .returned (.int .i64 (usedN (bs.map (·.2) ++ sv.flatMap (fun t => t.2.2.map (·.2))))) ∧ Kept nothing w w' := by
  obtain ⟨ba, bcap, rfl, hbn, hbm, hbc⟩ := owns_open hbs
  obtain ⟨sa, scap, rfl, hsnn, hsm, hsc⟩ := owns_open hsn
  unfold maxLen at hbm hsm
  clear hbs hsn
  have ha : a < w.heap.size := World.block_lt_of_cell? w _ hl
  go_enter Tryz.func91, Tryz.ntmps91
  go_wp2_with (at_make; refine wp_make_bools _ rfl _ _ rfl _ _ (last + 100) rfl rfl ?_ ?_ (by omega) ?_)
  · omega
  · omega
  intro w1 hown hk1
  have hN : ∃ N, N = last + 100 := ⟨_, rfl⟩
  obtain ⟨N, hN⟩ := hN
  rw [← hN] at hown ⊢
  have hNl : last + 1 < N := by omega
  have hNm : N ≤ 140737488355328 := by omega
  clear hN hlast hl
  go_wp2
  go_loopw [8] (fun i wr => ∃ k : Nat, k ≤ bs.length ∧ i = .int .i64 k ∧ wr.ownsRow 0 4 1 (.slice (some ⟨w.heap.size, 0, none⟩) N N) N (hasCells N ((bs.take k).map (·.2))) ∧ Kept nothing w wr) (fun i _ => bs.length - (intOf i).toNat)
  case atStart => exact ⟨0, Nat.zero_le _, rfl, hown, hk1⟩
  case round =>
    obtain ⟨k, hk, rfl, how, hkp⟩ := hrel
    by_cases hlt : k < bs.length
    · obtain ⟨g, rfl, hg, hc⟩ := hbc (by omega)
      have hx : bs[k]? = some bs[k] := by simp
      have hc0 := (hkp.cell (p := ⟨g, k * 2 + 1, none⟩) hg (fun h => h)).trans (hc (k * 2 + 1) _ (pairs_get (fun b : Blk => .string b.1) (fun b => .int .i64 (b.2 : Int)) bs k _ hx).2)
      have hcl := hid bs[k] (by simp)
      have htk : Hid ((bs.take (k + 1)).map (·.2) = (bs.take k).map (·.2) ++ [bs[k].2]) := ids_take_succ bs k hlt
      generalize bs[k].2 = c at hc0 hcl htk
      have hst := owns_cell how (hasCells_get N _ c (by omega))
      have hfz := owns_frozen how c
      have How : Hid (wr.ownsRow 0 4 1 (.slice (some ⟨w.heap.size, 0, none⟩) N N) N (hasCells N ((bs.take k).map (·.2)))) := how
      clear hc hbc hx hsc heach hid hids hown hk1 how
      go_wp2
      go_roundw
      case rel => exact ⟨k + 1, by omega, by go_num, by rw [htk.out, ← hasCells_set]; exact owns_set How.out c _, hkp.setCell (.inr (Nat.le_refl _)) _⟩
      case measure => simp [intOf]; omega
    · have hke : k = bs.length := by omega
      have hm0 : ∃ m0, m0 = bs.map (·.2) := ⟨_, rfl⟩
      obtain ⟨m0, hm0⟩ := hm0
      have hown0 : wr.ownsRow 0 4 1 (.slice (some ⟨w.heap.size, 0, none⟩) N N) N (hasCells N (m0 ++ sids (sv.take 0))) := by
        rw [hke, List.take_length, ← hm0] at how
        simpa using how
      have hm0l : ∀ x ∈ m0, x < N := by
        intro x hx; rw [hm0] at hx; simp only [List.mem_map] at hx; obtain ⟨y, hy, rfl⟩ := hx; have := hid y hy; omega
      have Hm0 : Hid (m0 = bs.map (·.2)) := hm0
      clear hke how hm0 hid hbc hown hk1
      go_wp2
      go_loopw [9] (fun i wr => ∃ k : Nat, k ≤ sv.length ∧ i = .int .i64 k ∧ wr.ownsRow 0 4 1 (.slice (some ⟨w.heap.size, 0, none⟩) N N) N (hasCells N (m0 ++ sids (sv.take k))) ∧ Kept nothing w wr) (fun i _ => sv.length - (intOf i).toNat)
      case atStart => exact ⟨0, Nat.zero_le _, rfl, hown0, hkp⟩
      case round =>
        clear hown0 hkp
        obtain ⟨q, hq, rfl, how, hkp⟩ := hrel
        by_cases hlt : q < sv.length
        · obtain ⟨gs, rfl, hgs, hcs⟩ := hsc (by omega)
          have hx : sv[q]? = some sv[q] := by simp
          have hcq := hcs (q * 2 + 1) _ (pairs_get (fun t : SV => .string t.1) (fun t => t.2.1) sv q _ hx).2
          have hev := heach sv[q] (by simp)
          have hidq := hids sv[q] (by simp)
          have hts : Hid (sids (sv.take (q + 1)) = sids (sv.take q) ++ sv[q].2.2.map (·.2)) := sids_take_succ sv q hlt
          generalize sv[q].2.2 = ts at hev hidq hts
          generalize sv[q].2.1 = tv at hcq hev
          obtain ⟨ta, tcap, rfl, htn, htm, htc⟩ := owns_open hev
          unfold maxLen at htm
          have How : Hid (wr.ownsRow 0 4 1 (.slice (some ⟨w.heap.size, 0, none⟩) N N) N (hasCells N (m0 ++ sids (sv.take q)))) := how
          clear hcs hsc hx heach hids hev how
          have hcq' := (hkp.cell (p := ⟨gs, q * 2 + 1, none⟩) hgs (fun h => h)).trans hcq
          go_wp2
          go_loopw [10] (fun i wr => ∃ k : Nat, k ≤ ts.length ∧ i = .int .i64 k ∧ wr.ownsRow 0 4 1 (.slice (some ⟨w.heap.size, 0, none⟩) N N) N (hasCells N (m0 ++ sids (sv.take q) ++ (ts.take k).map (·.2))) ∧ Kept nothing w wr) (fun i _ => ts.length - (intOf i).toNat)
          case atStart => exact ⟨0, Nat.zero_le _, rfl, by simpa using How.out, hkp⟩
          case round =>
            clear How hkp hcq'
            obtain ⟨j, hj, rfl, how, hkp⟩ := hrel
            have hcq' := (hkp.cell (p := ⟨gs, q * 2 + 1, none⟩) hgs (fun h => h)).trans hcq
            by_cases hjl : j < ts.length
            · obtain ⟨g, rfl, hg, hc⟩ := htc (by omega)
              have hx : ts[j]? = some ts[j] := by simp
              have hc0 := (hkp.cell (p := ⟨g, j * 2 + 1, none⟩) hg (fun h => h)).trans (hc (j * 2 + 1) _ (pairs_get (fun b : Blk => .string b.1) (fun b => .int .i64 (b.2 : Int)) ts j _ hx).2)
              have hcl := hidq ts[j] (by simp)
              have htk : Hid ((ts.take (j + 1)).map (·.2) = (ts.take j).map (·.2) ++ [ts[j].2]) := ids_take_succ ts j hjl
              generalize ts[j].2 = c at hc0 hcl htk
              have hst := owns_cell how (hasCells_get N _ c (by omega))
              have hfz := owns_frozen how c
              have How : Hid (wr.ownsRow 0 4 1 (.slice (some ⟨w.heap.size, 0, none⟩) N N) N (hasCells N (m0 ++ sids (sv.take q) ++ (ts.take j).map (·.2)))) := how
              clear hc htc hx hidq how
              go_wp2
              go_roundw
              case rel => exact ⟨j + 1, by omega, by go_num, by rw [htk.out, ← List.append_assoc, ← hasCells_set]; exact owns_set How.out c _, hkp.setCell (.inr (Nat.le_refl _)) _⟩
              case measure => simp [intOf]; omega
            · have hje : j = ts.length := by omega
              have How : Hid (wr.ownsRow 0 4 1 (.slice (some ⟨w.heap.size, 0, none⟩) N N) N (hasCells N (m0 ++ sids (sv.take (q + 1))))) := by
                rw [hts.out, ← List.append_assoc]; rw [hje, List.take_length] at how; exact how
              clear hje how
              go_wp2
              go_roundw
              case rel => exact ⟨q + 1, by omega, by go_num, How.out, hkp⟩
              case measure => simp [intOf]; omega
        · have hqe : q = sv.length := by omega
          have how2 : wr.ownsRow 0 4 1 (.slice (some ⟨w.heap.size, 0, none⟩) N N) N (hasCells N (m0 ++ sids sv)) := by
            rw [hqe, List.take_length] at how; exact how
          have hall : ∀ x ∈ m0 ++ sids sv, x < N := by
            intro x hx
            rw [List.mem_append] at hx
            rcases hx with hx | hx
            · exact hm0l x hx
            · obtain ⟨t, ht, b, hb, rfl⟩ := sids_mem hx
              have := hids t ht b hb; omega
          have hus : Hid (usedN (bs.map (·.2) ++ sids sv) = countTo (m0 ++ sids sv) N) := by rw [← Hm0.out]; exact (countTo_used _ N hall).symm
          clear hqe how hall hm0l hids hsc heach Hm0
          generalize m0 ++ sids sv = M at how2 hus
          go_wp2
          go_loop [11, 12] (fun n i => ∃ k : Nat, 1 ≤ k ∧ k ≤ N ∧ i = .int .i64 k ∧ n = .int .i64 (countTo M k : Nat)) (fun _ i => N - (intOf i).toNat)
          case atStart => exact ⟨1, by omega, by omega, rfl, by rw [countTo_one]; rfl⟩
          case round =>
            obtain ⟨j, hj1, hj, rfl, rfl⟩ := hrel
            have hcl := countTo_le M j
            by_cases hjl : j < N
            · have hc0 := owns_cell how2 (hasCells_get N M j hjl)
              have hsu : Hid (countTo M (j + 1) = countTo M j + if j ≠ 0 ∧ j ∈ M then 1 else 0) := countTo_succ M j
              generalize countTo M j = cn at hcl hsu
              have How : Hid (wr.ownsRow 0 4 1 (.slice (some ⟨w.heap.size, 0, none⟩) N N) N (hasCells N M)) := how2
              clear how2
              by_cases hM : j ∈ M
              · have hd : decide (j ∈ M) = true := by simp [hM]
                rw [hd] at hc0
                clear hd
                go_wp2
                go_round
                case rel => exact ⟨j + 1, by omega, by omega, by go_num, by rw [hsu.out, if_pos ⟨by omega, hM⟩]; go_num⟩
                case measure => simp [intOf]; omega
              · have hd : decide (j ∈ M) = false := by simp [hM]
                rw [hd] at hc0
                clear hd
                go_wp2
                go_round
                case rel => exact ⟨j + 1, by omega, by omega, by go_num, by rw [hsu.out, if_neg (fun h => hM h.2)]; go_num⟩
                case measure => simp [intOf]; omega
            · have hje : Hid (j = N) := by show j = N; omega
              clear how2
              go_wp2
              go_ret
              exact ⟨ret_int (by rw [hus.out, hje.out]), hkp⟩
end Go.Proofs.YtdnjfjdhkmngjaaGreatDoor
