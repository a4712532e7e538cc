import Derived.Test.YtdnjfjdhkmngjaaGreatDoorZ
import Derived.Test.YtdnjfjdhkmngjaaGreatDoorCards
import Derived.Test.YtdnjfjdhkmngjaaGreatDoorTie
import Derived.ProofKit
import Derived.OpenShut
import Derived.Deep.Slices
import Derived.Deep.Strs
import Derived.Deep.DeepHandedRow
import Derived.Deep.DeepWitnessRowRef
import Derived.LaidHandle
import Derived.LaidLaws
import Derived.Stop.LaidErr
import Derived.SevenTiedAt
namespace Go.Proofs.YtdnjfjdhkmngjaaGreatDoor
open Go.ChangeShapes Go.WideShapes Go.ChangeAt Go.RowKit Go.Deep

/-! ### The law itself -/
theorem blocks_any (w : World) (sa : Option Addr) (n cap : Nat) (sops : List OpV) (hlen : sops.length = n) (hn : n ≤ 1759218604390) (hok : ∀ o ∈ sops, o.Ok) (hG : Globals w) (h2 : 2 ≤ w.heap.size)
    (hsc : (sa = none ∧ n = 0) ∨ ∃ ad, sa = some ad ∧ ∀ j u, (opcells sops)[j]? = some u → w.cell? (ad.add j) = some u) :
    Calls Tryz.prog 3 #[.slice sa n cap] w fun e w' => e = .returned (.bool true) ∧ Kept nothing w w' := by
  have H : Hid (Calls Tryz.prog 7 #[.slice sa n cap, .int .i64 7] w fun e w' => e = .returned (.bool true) ∧ Kept nothing w w') := plays_any w sa n cap sops hlen hn hok hG h2 hsc 7 (by decide) (by decide)
  clear hlen hok hG hsc
  go_enter Tryz.func3, Tryz.ntmps3
  go_wp2_with (go_at_call 7; refine H.out.mono ?_; rintro e w1 ⟨rfl, hk⟩)
  go_ret
  exact ⟨rfl, hk⟩

theorem streams_any (w : World) (sa : Option Addr) (n cap : Nat) (sops : List OpV) (hlen : sops.length = n) (hn : n ≤ 1759218604390) (hok : ∀ o ∈ sops, o.Ok) (hG : Globals w) (h2 : 2 ≤ w.heap.size)
    (hsc : (sa = none ∧ n = 0) ∨ ∃ ad, sa = some ad ∧ ∀ j u, (opcells sops)[j]? = some u → w.cell? (ad.add j) = some u) :
    Calls Tryz.prog 4 #[.slice sa n cap] w fun e w' => e = .returned (.bool true) ∧ Kept nothing w w' := by
  have H : Hid (Calls Tryz.prog 7 #[.slice sa n cap, .int .i64 9] w fun e w' => e = .returned (.bool true) ∧ Kept nothing w w') := plays_any w sa n cap sops hlen hn hok hG h2 hsc 9 (by decide) (by decide)
  clear hlen hok hG hsc
  go_enter Tryz.func4, Tryz.ntmps4
  go_wp2_with (go_at_call 7; refine H.out.mono ?_; rintro e w1 ⟨rfl, hk⟩)
  go_ret
  exact ⟨rfl, hk⟩

/-! ### What a script's cells hold -/
theorem cells3 : Tryz.prog.cellsOf 3 = 1 := by kernel_rfl
theorem cells9 : Tryz.prog.cellsOf 9 = 1 := by kernel_rfl
theorem cellsOp : Tryz.prog.cellsOf 56 = 7 := by kernel_rfl
theorem wf_i64 {n : Int} (h : (Lit.int .i64 n).wf = true) : -9223372036854775808 ≤ n ∧ n ≤ 9223372036854775807 := by
  simp [Lit.wf] at h
  have e1 : IntKind.i64.min = -9223372036854775808 := rfl
  have e2 : IntKind.i64.max = 9223372036854775807 := rfl
  omega
set_option maxRecDepth 100000 in
theorem op_of {H : Type} {enc : TypeId × Value → H} {w : World} {base n : Nat} {sp : Nat → Bool} {hd : Bool} {cs : List Value} {x : DataW H × List MemPlace} (h : DataW.trod enc Tryz.prog w base sp hd n 56 cs = some x) :
    ∃ o : OpV, o.Ok ∧ cs = o.cells.toList := by
  obtain ⟨xs, m, _, _, hl, hx, hf⟩ := DataW.trod_struct Tryz.underlying56 h
  rw [cellsOp] at hl
  obtain ⟨c0, c1, c2, c3, c4, c5, c6, rfl⟩ : ∃ c0 c1 c2 c3 c4 c5 c6, cs = [c0, c1, c2, c3, c4, c5, c6] := by
    match cs, hl with
    | [c0, c1, c2, c3, c4, c5, c6], _ => exact ⟨c0, c1, c2, c3, c4, c5, c6, rfl⟩
  obtain ⟨y0, y1, y2, y3, y4, y5, y6, rfl⟩ : ∃ y0 y1 y2 y3 y4 y5 y6, xs = [y0, y1, y2, y3, y4, y5, y6] := by
    match xs, hx with
    | [y0, y1, y2, y3, y4, y5, y6], _ => exact ⟨y0, y1, y2, y3, y4, y5, y6, rfl⟩
  have f0 : DataW.trod enc Tryz.prog w base sp hd m 3 (([c0, c1, c2, c3, c4, c5, c6].drop 0).take (Tryz.prog.cellsOf 3)) = some y0 := hf 0 _ rfl
  have f1 : DataW.trod enc Tryz.prog w base sp hd m 3 (([c0, c1, c2, c3, c4, c5, c6].drop 1).take (Tryz.prog.cellsOf 3)) = some y1 := hf 1 _ rfl
  have f2 : DataW.trod enc Tryz.prog w base sp hd m 3 (([c0, c1, c2, c3, c4, c5, c6].drop 2).take (Tryz.prog.cellsOf 3)) = some y2 := hf 2 _ rfl
  have f3 : DataW.trod enc Tryz.prog w base sp hd m 3 (([c0, c1, c2, c3, c4, c5, c6].drop 3).take (Tryz.prog.cellsOf 3)) = some y3 := hf 3 _ rfl
  have f4 : DataW.trod enc Tryz.prog w base sp hd m 9 (([c0, c1, c2, c3, c4, c5, c6].drop 4).take (Tryz.prog.cellsOf 9)) = some y4 := hf 4 _ rfl
  have f5 : DataW.trod enc Tryz.prog w base sp hd m 9 (([c0, c1, c2, c3, c4, c5, c6].drop 5).take (Tryz.prog.cellsOf 9)) = some y5 := hf 5 _ rfl
  have f6 : DataW.trod enc Tryz.prog w base sp hd m 9 (([c0, c1, c2, c3, c4, c5, c6].drop 6).take (Tryz.prog.cellsOf 9)) = some y6 := hf 6 _ rfl
  rw [cells3] at f0 f1 f2 f3
  rw [cells9] at f4 f5 f6
  obtain ⟨v0, e0, _, b0⟩ := DataW.trod_int Tryz.underlying3 f0
  obtain ⟨v1, e1, _, b1⟩ := DataW.trod_int Tryz.underlying3 f1
  obtain ⟨v2, e2, _, b2⟩ := DataW.trod_int Tryz.underlying3 f2
  obtain ⟨v3, e3, _, _⟩ := DataW.trod_int Tryz.underlying3 f3
  obtain ⟨v4, e4, _, b4⟩ := DataW.trod_string Tryz.underlying9 f4
  obtain ⟨v5, e5, _, b5⟩ := DataW.trod_string Tryz.underlying9 f5
  obtain ⟨v6, e6, _, b6⟩ := DataW.trod_string Tryz.underlying9 f6
  simp at e0 e1 e2 e3 e4 e5 e6
  subst e0; subst e1; subst e2; subst e3; subst e4; subst e5; subst e6
  exact ⟨⟨v0, v1, v2, v3, v4, v5, v6⟩, ⟨(wf_i64 b0).1, (wf_i64 b0).2, (wf_i64 b1).1, (wf_i64 b1).2, (wf_i64 b2).1, (wf_i64 b2).2, b4, b5, b6⟩, rfl⟩
/-- A slice of steps, opened. -/
theorem open_ops {H : Type} {enc : TypeId × Value → H} {w : World} {base fuel : Nat} {hd : Bool} {cs : List Value} {x : DataW H × List MemPlace} (h : DataW.trod enc Tryz.prog w base (fun _ => true) hd fuel 22 cs = some x) :
    (cs = [.slice none 0 0] ∧ x = (.nil, [])) ∨ ∃ (a : Addr) (len cap : Nat) (l : List OpV) (elems spare : List (DataW H)) (ps : List MemPlace), cs = [.slice (some a) len cap] ∧ x = (.slice elems spare, ps) ∧ elems.length = len ∧ l.length = len ∧ (∀ o ∈ l, o.Ok) ∧
      ∀ j u, (opcells l)[j]? = some u → w.cell? (a.add j) = some u := by
  rcases open_slice und_ops h with h0 | ⟨a, len, cap, m, n, D, Pl, rfl, _, hl, _, hmm, rfl, hel⟩
  · exact .inl h0
  right
  simp only [if_true] at hmm
  subst hmm
  rw [cellsOp] at hel
  have : Inhabited OpV := ⟨⟨0, 0, 0, 0, ⟨#[]⟩, ⟨#[]⟩, ⟨#[]⟩⟩⟩
  obtain ⟨F, hF⟩ := choose_lt (α := OpV) (n := len) (p := fun i o => o.Ok ∧ ∀ j, j < 7 → w.cell? (a.add (i * 7 + j)) = o.cells[j]?) (fun i hi => by
    obtain ⟨cs', h1, h2⟩ := hel i (by omega)
    obtain ⟨o, ho, rfl⟩ := op_of h2
    obtain ⟨_, _, hc⟩ := World.cells?_some h1
    refine ⟨o, ho, fun j hj => ?_⟩
    have := hc j hj
    rw [add_add] at this
    rw [this]
    simp)
  refine ⟨a, len, _, (List.range len).map F, _, _, _, rfl, rfl, by simp, by simp, ?_, ?_⟩
  · intro o ho
    obtain ⟨i, hi, rfl⟩ := List.mem_map.1 ho
    exact (hF i (List.mem_range.1 hi)).1
  · intro j u hu
    have hlt : j < len * 7 := by
      have := (List.getElem?_eq_some_iff.1 hu).1
      rw [opcells_len] at this
      simpa using this
    have hi : j / 7 < len := by omega
    have hj : j % 7 < 7 := Nat.mod_lt _ (by omega)
    have e : j / 7 * 7 + j % 7 = j := by omega
    rw [← e] at hu ⊢
    rw [opcells_get _ (j / 7) (j % 7) (F (j / 7)) (by simp [hi]) hj] at hu
    rw [(hF _ hi).2 _ hj]
    exact hu

/-! ### The bound -/
theorem bulk_pos {H : Type} (d : DataW H) : 1 ≤ Rows.uptoBulk d := by
  cases d with
  | lit l => cases l <;> simp [Rows.uptoBulk]
  | nil => simp [Rows.uptoBulk]
  | ptr d => simp [Rows.uptoBulk]
  | slice elems spare => simp [Rows.uptoBulk]
  | agg parts => simp [Rows.uptoBulk]
  | iface t d => simp [Rows.uptoBulk]
  | map entries => simp [Rows.uptoBulk]
  | held h => simp [Rows.uptoBulk]
theorem bulk_len {H : Type} (l : List (DataW H)) : l.length ≤ Rows.uptoBulkAll l := by
  induction l with
  | nil => simp [Rows.uptoBulkAll]
  | cons x r ih => have := bulk_pos x; simp only [Rows.uptoBulkAll, List.length_cons]; omega
theorem bulk_slice {H : Type} {elems spare : List (DataW H)} (hk : Rows.uptoSmall H [.slice elems spare] = true) : elems.length ≤ 1048576 := by
  have h := of_decide_eq_true hk
  simp only [Rows.uptoBulkAll, Rows.uptoBulk] at h
  have := bulk_len elems
  omega

theorem sized_slice {H : Type} {elems spare : List (DataW H)} (hk : (DataW.weightsEach Tryz.prog [22] [DataW.slice elems spare]).all (· ≤ reachBytes) = true) : elems.length ≤ 1759218604390 := by
  have hb : Tryz.prog.bytesOf 56 = 80 := by kernel_rfl
  rw [List.all_eq_true] at hk
  have h : (elems.length + spare.length) * Tryz.prog.bytesOf 56 ≤ reachBytes := of_decide_eq_true (hk _ (by simp [DataW.weightsEach, DataW.weights]))
  rw [hb, show reachBytes = 140737488351232 from rfl] at h
  omega

/-! ### What the row lists -/
theorem own : ownKnob Tryz.prog.godebug = none := by kernel_rfl
theorem laidOut : laidOutB Tryz.prog = true := by kernel_rfl
theorem gBroken : Tryz.prog.globalNamed "marl/marl.Broken" = some 0 := by kernel_rfl
theorem gBrokenType : (Tryz.prog.globals[0]?).map (·.type) = some 44 := by kernel_rfl
theorem gType : Tryz.prog.globalNamed "errors.errorType" = some 1 := by kernel_rfl
theorem rt : (Tryz.prog.cutTypes.find? (·.1 == "internal/reflectlite.rtype")).map (·.2) = some 121 := by kernel_rfl
theorem typesSize : Tryz.prog.types.size = 278 := by kernel_rfl
theorem oneRow : ((List.range 278).filter fun t => Tryz.prog.rowNamed t [101, 114, 114, 111, 114]) = [44] := by kernel_rfl
theorem cellsES : Tryz.prog.cellsOf 267 = 1 := by kernel_rfl
theorem star : "*" ++ "errors.errorString" = "*errors.errorString" := by decide
theorem rowES (u : TypeId) (h : Tryz.prog.typeName? 3 u = some "*errors.errorString") : u = 249 :=
  typeName_ptr_named (nm := "errors.errorString") (by rw [star]; kernel_rfl) (by kernel_rfl) (by decide) u (by rw [star]; exact h)
theorem globals_of_laid {W : World} (h : laidMetH Tryz.prog Rows.blocksUptoRow.laid W) : Globals W := by
  have h' : laidMet Tryz.prog [("marl/marl.Broken", Rows.laid_marl_marl_Broken)] W ∧ handlesMet Tryz.prog [("errors.errorType", Rows.laid_errors_errorType)] W := h
  obtain ⟨h1, h2⟩ := h'
  obtain ⟨name, u, ty, e1, e2, e3, e4, e5⟩ := h2 _ (List.mem_singleton.2 rfl)
  have en : name = [101, 114, 114, 111, 114] := (Option.some.inj e1).symm
  subst en
  obtain rfl := Option.some.inj (rt.symm.trans e2)
  have hm : ty ∈ (List.range 278).filter fun t => Tryz.prog.rowNamed t [101, 114, 114, 111, 114] := List.mem_filter.2 ⟨List.mem_range.2 (by rw [← typesSize]; exact e3), e4⟩
  rw [oneRow] at hm
  obtain rfl := List.mem_singleton.1 hm
  have hh : typeHandle Tryz.prog 44 = .pointer (some ⟨2, 44, none⟩) := by kernel_rfl
  rw [hh] at e5
  obtain ⟨a, s, hv, _, _, _⟩ := laid_sentinel h1 gBroken gBrokenType Tryz.underlying44 rowES Tryz.underlying249 Tryz.underlying267 rfl rfl Tryz.underlying9 cellsES cells9
  exact ⟨⟨a, by simpa using World.var?_cell gBroken hv 0⟩, by simpa using World.var?_cell gType e5 0⟩

/-! ### A tied card of a row whose code can start goroutines -/
theorem tied_goes_at (Lk : Looks) {p : Pinned} {s : OpenSpec} {c : OpenClaim} (kinds : List LaidKind) (tests : Bool) (har : Bool × String) (lk : Bool)
    (hc : c.holds p s) (hw : c.wfByText s = true) (htie : c.laidByTextAt Lk p kinds tests)
    (hst : c.start = .entering) (hnb : c.noBlocks = false ∧ c.again = false) (hm : p.checked.prog.mainIs = some (har.1, har.2.toList)) (hn : (!har.1 && har.2.isEmpty && !lk) = false)
    (hl : ∀ f fn, p.checked.prog.funcNamed c.func = some f → p.checked.prog.funcs[f]? = some fn → lk = p.checked.prog.looks [] ∧ ∀ (j : Nat) t, fn.params[j]? = some t → p.checked.prog.wantsStandIn t = false)
    (hg : true = c.goesBy p.checked.prog) :
    Claim7.holds p (.plain s) { stood := { row := c, standIns := [], harness := har, looks := lk }, kinds := [], alts := [], goes := true, laidByText := true, laidKinds := kinds, laidTests := tests, laidLooks := Lk } := by
  have h6 : ∀ r : OpenClaim, Claim7.isSixth { stood := { row := r, standIns := [], harness := har, looks := lk }, kinds := [] } = false := fun r => by simpa [Claim7.isSixth] using hn
  exact ⟨Claim7.tied_new_at Lk kinds tests (Claim7.new_of_sixth hc har lk hst hnb hm (h6 c) hl) hw, fun _ h => (by cases h), htie, (fun h => by cases h), hg⟩
end Go.Proofs.YtdnjfjdhkmngjaaGreatDoor
