import Derived.Test.YthknflhgoldaeaaDoorP
import Derived.BigQuiet
import Derived.Deep.QuietTactic
namespace Go.Proofs.YthknflhgoldaeaaDoor
open Go.RowKit Go.Extern.Stop Go.Stop Go.Extern

set_option maxRecDepth 100000 in
set_option maxHeartbeats 4000000 in
theorem is_nil (a : Addr) (w : World) :
    Calls Tryd.prog 39 #[.nilIface, .iface 172 (.pointer (some a))] w fun e w' => e = .returned (.bool false) ∧ w' = w := by
  have hn := run_eql_iface_nil_left (P := Tryd.prog) w 172 (.pointer (some a)) Tryd.underlying45
  go_enter Tryd.func39, Tryd.ntmps39
  go_wp2
  go_ret
  exact ⟨rfl, rfl⟩

set_option maxRecDepth 100000 in
set_option maxHeartbeats 8000000 in
theorem is_refusal (b f : Nat) (s : ByteArray) (a : Addr) (w : World) (hb : w.heap[b]? = some (.cells #[.string s, .pointer (some ⟨f, 0, none⟩)] 114 (0, 0))) :
    Calls Tryd.prog 39 #[.iface 109 (.pointer (some ⟨b, 0, none⟩)), .iface 172 (.pointer (some a))] w fun e w' => e = .returned (.bool false) ∧ w' = w := by
  have h10 := @run_callFunc_extern Tryd.prog 63 _ ReflectliteType.typeOf Tryd.func63 (by kernel_rfl) (by kernel_rfl) (by kernel_rfl) (by kernel_rfl)
  have hcm := @run_callFunc_extern Tryd.prog 110 _ cmpF Tryd.func110 (by kernel_rfl) (by kernel_rfl) (by kernel_rfl) (by kernel_rfl)
  have tE := typeOfE
  have mC := methodComparable
  have cE := comparableE
  have nR := noIsR
  have uR := hasUnwR
  have mU := methodUnwrap
  have nF := noIsF
  have uF := noUnwF
  have vF := noUnwsF
  have eR := neRF
  have eF := neFE
  have Hun : Hid (Calls Tryd.prog 103 #[.pointer (some ⟨b, 0, none⟩)] w fun e w' => e = .returned (.iface 110 (.pointer (some ⟨f, 0, none⟩))) ∧ w' = w) := unwrap_any b f s w hb
  clear hb
  go_enter Tryd.func39, Tryd.ntmps39
  go_wp2
  refine wp_loop_rounds 2 ?_
  rw [rounds_succ]
  go_wp2_with (go_at_call 103; refine Hun.out.mono ?_; rintro e w' ⟨rfl, rfl⟩)
  rw [rounds_succ]
  go_wp2
  go_ret
  exact ⟨rfl, rfl⟩
end Go.Proofs.YthknflhgoldaeaaDoor
