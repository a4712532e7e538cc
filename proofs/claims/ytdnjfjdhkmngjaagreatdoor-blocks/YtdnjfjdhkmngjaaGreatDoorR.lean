import Derived.Test.YtdnjfjdhkmngjaaGreatDoorP
import Derived.BigQuiet
import Derived.Deep.QuietTactic
namespace Go.Proofs.YtdnjfjdhkmngjaaGreatDoor
open Go.RowKit Go.Extern.Stop Go.Stop Go.Extern

set_option maxRecDepth 100000 in
set_option maxHeartbeats 4000000 in
theorem is_nil (a : Addr) (w : World) :
    Calls Tryz.prog 14 #[.nilIface, .iface 249 (.pointer (some a))] w fun e w' => e = .returned (.bool false) ∧ w' = w := by
  have hn := run_eql_iface_nil_left (P := Tryz.prog) w 249 (.pointer (some a)) Tryz.underlying44
  go_enter Tryz.func14, Tryz.ntmps14
  go_wp2
  go_ret
  exact ⟨rfl, rfl⟩

set_option maxRecDepth 100000 in
set_option maxHeartbeats 4000000 in
theorem is_fault (f : Nat) (a : Addr) (w : World) :
    Calls Tryz.prog 37 #[.iface 157 (.pointer (some ⟨f, 0, none⟩)), .iface 249 (.pointer (some a)), .bool true] w fun e w' => e = .returned (.bool false) ∧ w' = w := by
  have nF := noIsF
  have uF := noUnwF
  have vF := noUnwsF
  have eF := neFE
  go_enter Tryz.func37, Tryz.ntmps37
  go_wp2
  refine wp_loop_rounds 1 ?_
  rw [rounds_succ]
  go_wp2
  go_ret
  exact ⟨rfl, rfl⟩

set_option maxRecDepth 100000 in
set_option maxHeartbeats 8000000 in
theorem is_refusal (b f : Nat) (s : ByteArray) (code : Int) (a : Addr) (w : World) (hb : w.heap[b]? = some (.cells #[.string s, .pointer (some ⟨f, 0, none⟩)] 161 (0, 0))) (hf : w.heap[f]? = some (.cells #[.int .i64 code, .int .i64 0] 159 (0, 0))) (h8 : code ≠ 8) (h9 : code ≠ 9) :
    Calls Tryz.prog 14 #[.iface 156 (.pointer (some ⟨b, 0, none⟩)), .iface 249 (.pointer (some a))] w fun e w' => e = .returned (.bool false) ∧ Kept nothing w w' := by
  have h10 := @run_callFunc_extern Tryz.prog 36 _ ReflectliteType.typeOf Tryz.func36 (by kernel_rfl) (by kernel_rfl) (by kernel_rfl) (by kernel_rfl)
  have hcm := @run_callFunc_extern Tryz.prog 167 _ cmpF Tryz.func167 (by kernel_rfl) (by kernel_rfl) (by kernel_rfl) (by kernel_rfl)
  have tE := typeOfE
  have mC := methodComparable
  have cE := comparableE
  have nR := noIsR
  have uR := noUnwR
  have vR := hasUnwsR
  have mU := methodUnwrap
  have eR := neRF
  have Hun : Hid (Calls Tryz.prog 177 #[.pointer (some ⟨b, 0, none⟩)] w fun e w' => e = .returned (.slice (some ⟨w.heap.size, 0, none⟩) 1 1) ∧ w' = w.alloc (.cells #[.iface 157 (.pointer (some ⟨f, 0, none⟩))] 44)) := unwrap_any b f s code w hb hf h8 h9
  have His : Hid (∀ W : World, Calls Tryz.prog 37 #[.iface 157 (.pointer (some ⟨f, 0, none⟩)), .iface 249 (.pointer (some a)), .bool true] W fun e w' => e = .returned (.bool false) ∧ w' = W) := is_fault f a
  clear hb hf h8 h9
  go_enter Tryz.func14, Tryz.ntmps14
  go_wp2
  refine wp_loop_rounds 1 ?_
  rw [rounds_succ]
  go_wp2_with (go_at_call 177; refine Hun.out.mono ?_; rintro e w' ⟨rfl, rfl⟩)
  refine wp_loop_rounds 2 ?_
  rw [rounds_succ]
  go_wp2_with (go_at_call 37; refine (His.out _).mono ?_; rintro e w' ⟨rfl, rfl⟩)
  rw [rounds_succ]
  go_wp2
  go_ret
  exact ⟨rfl, (Kept.refl nothing w).alloc _⟩
end Go.Proofs.YtdnjfjdhkmngjaaGreatDoor
