import Derived.Test.YtdnjfjdhkmngjaaGreatDoorQ
import Derived.Test.YtdnjfjdhkmngjaaGreatDoorR
namespace Go.Proofs.YtdnjfjdhkmngjaaGreatDoor
open Go.RowKit

/-- What the two package variables hold. -/
structure Globals (w : World) : Prop where
  broken : ∃ a, w.cell? ⟨0, 0, none⟩ = some (.iface 249 (.pointer (some a)))
  type : w.cell? ⟨1, 0, none⟩ = some (.iface 121 (.agg #[.pointer (some ⟨2, 44, none⟩)]))
theorem Globals.kept {S : Nat → Prop} {w w' : World} (h : Globals w) (hk : Kept S w w') (h0 : ¬ S 0) (h1 : ¬ S 1) : Globals w' := by
  obtain ⟨a, ha⟩ := h.broken
  exact ⟨⟨a, (hk.cell (p := ⟨0, 0, none⟩) (World.block_lt_of_cell? w _ ha) h0).trans ha⟩, (hk.cell (p := ⟨1, 0, none⟩) (World.block_lt_of_cell? w _ h.type) h1).trans h.type⟩
theorem Globals.keptN {w w' : World} (h : Globals w) (hk : Kept nothing w w') : Globals w' := h.kept hk (fun h => h) (fun h => h)

theorem Kept.drewN {S : Nat → Prop} {a w : World} (h : Kept S a w) (n : Nat) : Kept S a (w.drewN n) := ⟨h.os, h.tape, h.output, h.size, h.block⟩

set_option maxHeartbeats 400000 in
theorem fault_nil (w : World) : Calls Tryz.prog 88 #[.nilIface] w fun e w' => e = .returned (.tuple #[.int .i64 0, .int .i64 0]) ∧ w' = w := by
  go_enter Tryz.func88, Tryz.ntmps88
  go_wp2
  go_ret2
  exact ⟨rfl, rfl⟩

set_option maxHeartbeats 1000000 in
theorem fault_refusal (b f : Nat) (s : ByteArray) (code : Int) (w : World) (hG : Globals w) (hb : w.heap[b]? = some (.cells #[.string s, .pointer (some ⟨f, 0, none⟩)] 161 (0, 0))) (hf : w.heap[f]? = some (.cells #[.int .i64 code, .int .i64 0] 159 (0, 0))) (h8 : code ≠ 8) (h9 : code ≠ 9) :
    Calls Tryz.prog 88 #[.iface 156 (.pointer (some ⟨b, 0, none⟩))] w fun e w' => e = .returned (.tuple #[.int .i64 code, .int .i64 0]) ∧ Kept nothing w w' := by
  have hka : Kept nothing w (w.alloc (.cells #[.pointer none] 157)) := (Kept.refl nothing w).alloc _
  have hA := heap_alloc_new w (.cells #[.pointer none] 157 (0, 0))
  have Hcall : Hid (Calls Tryz.prog 110 #[.iface 156 (.pointer (some ⟨b, 0, none⟩)), .iface 203 (.pointer (some ⟨w.heap.size, 0, none⟩))] (w.alloc (.cells #[.pointer none] 157)) fun ev w' => ev = .returned (.bool true) ∧ w'.cell? ⟨w.heap.size, 0, none⟩ = some (.pointer (some ⟨f, 0, none⟩)) ∧ Kept nothing w w') := by
    refine (as_refusal b f s code w.heap.size (.pointer none) _ (hG.keptN hka).type (hka.get hb (fun h => h)) (hka.get hf (fun h => h)) h8 h9 (blk_cell hA 0 rfl) (blk_frozen hA 0)).mono ?_
    rintro ev w' ⟨rfl, hc, hk⟩
    exact ⟨rfl, hc, hka.trans' hk (fun i hi h => by omega)⟩
  have Hf : Hid (w.heap[f]? = some (.cells #[.int .i64 code, .int .i64 0] 159 (0, 0))) := hf
  clear hA hka hG hb hf h8 h9
  go_enter Tryz.func88, Tryz.ntmps88
  go_wp2_with fail
  refine Hcall.out.mono ?_
  rintro e w1 ⟨rfl, hc1, hk1⟩
  have hf1 := hk1.get Hf.out (fun h => h)
  have hx0 : w1.cell? ⟨f, 0, none⟩ = some (.int .i64 code) := blk_cell hf1 0 rfl
  have hx1 : w1.cell? ⟨f, 1, none⟩ = some (.int .i64 0) := blk_cell hf1 1 rfl
  clear hf1 Hf
  go_wp2
  go_quiet (fail)
  go_wp2
  go_ret2
  exact ⟨rfl, hk1.drewN nq⟩

set_option maxHeartbeats 1000000 in
theorem says_any (err : Value) (code : Int) (w : World) (hG : Globals w) (hE : ErrRep w err code) (h8 : code ≠ 8) (h9 : code ≠ 9) :
    Calls Tryz.prog 65 #[err, .int .i64 code, .int .i64 0] w fun e w' => e = .returned (.bool true) ∧ Kept nothing w w' := by
  obtain ⟨a, ha⟩ := hG.broken
  have hlt : 0 < w.heap.size := World.block_lt_of_cell? w _ ha
  rcases hE with ⟨rfl, rfl⟩ | ⟨h0, b, f, s, rfl, hb, hf⟩
  · have Hf : Hid (Calls Tryz.prog 88 #[.nilIface] w fun e w' => e = .returned (.tuple #[.int .i64 0, .int .i64 0]) ∧ w' = w) := fault_nil w
    have Hi : Hid (Calls Tryz.prog 14 #[.nilIface, .iface 249 (.pointer (some a))] w fun e w' => e = .returned (.bool false) ∧ w' = w) := is_nil a w
    clear hG h8 h9
    go_enter Tryz.func65, Tryz.ntmps65
    go_wp2_with (first | (go_at_call 88; refine Hf.out.mono ?_; rintro e w' ⟨rfl, rfl⟩) | (go_at_call 14; refine Hi.out.mono ?_; rintro e w' ⟨rfl, rfl⟩))
    go_ret
    exact ⟨rfl, Kept.refl _ _⟩
  · have Hf : Hid (Calls Tryz.prog 88 #[.iface 156 (.pointer (some ⟨b, 0, none⟩))] w fun e w' => e = .returned (.tuple #[.int .i64 code, .int .i64 0]) ∧ Kept nothing w w') := fault_refusal b f s code w hG hb hf h8 h9
    have Hi : Hid (∀ W : World, Kept nothing w W → Calls Tryz.prog 14 #[.iface 156 (.pointer (some ⟨b, 0, none⟩)), .iface 249 (.pointer (some a))] W fun e w' => e = .returned (.bool false) ∧ Kept nothing w w') := fun W hk => (is_refusal b f s code a W (hk.get hb (fun h => h)) (hk.get hf (fun h => h)) h8 h9).mono fun e w' h => ⟨h.1, hk.trans h.2⟩
    have b8 : (code == 8) = false := by simpa using h8
    have b9 : (code == 9) = false := by simpa using h9
    have bb : (code == code) = true := by simp
    clear hG h8 h9 h0 hb hf
    go_enter Tryz.func65, Tryz.ntmps65
    go_wp2_with fail
    refine Hf.out.mono ?_
    rintro e w1 ⟨rfl, hk1⟩
    have ha1 := (hk1.cell (p := ⟨0, 0, none⟩) hlt (fun h => h)).trans ha
    go_wp2_with (go_at_call 14; refine (Hi.out w1 hk1).mono ?_; rintro e w' ⟨rfl, hk2⟩)
    go_ret
    exact ⟨rfl, hk2⟩
end Go.Proofs.YtdnjfjdhkmngjaaGreatDoor
