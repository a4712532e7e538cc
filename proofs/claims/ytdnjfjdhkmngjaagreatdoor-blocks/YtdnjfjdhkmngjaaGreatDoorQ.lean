import Derived.Test.YtdnjfjdhkmngjaaGreatDoorP
import Derived.BigQuiet
import Derived.Deep.QuietTactic
namespace Go.Proofs.YtdnjfjdhkmngjaaGreatDoor
open Go.RowKit Go.Extern.Stop Go.Stop Go.Extern

set_option maxRecDepth 100000 in
set_option maxHeartbeats 4000000 in
/-- errors.as at the fault itself: it is put into the target. -/
theorem as_fault (f t vb : Nat) (old : Value) (w : World) (hvb : w.cell? ⟨vb, 0, none⟩ = some (.pointer (some ⟨t, 0, none⟩))) (ht0 : w.cell? ⟨t, 0, none⟩ = some old) (hf0 : w.frozen? ⟨t, 0, none⟩ = false) :
    Calls Tryz.prog 131 #[.iface 157 (.pointer (some ⟨f, 0, none⟩)), .iface 203 (.pointer (some ⟨t, 0, none⟩)), .agg #[.pointer (some ⟨2, 203, none⟩), .pointer (some ⟨vb, 0, none⟩), .int .u64 150], .iface 121 (.agg #[.pointer (some ⟨2, 157, none⟩)])] w fun ev w' => ev = .returned (.bool true) ∧ w'.cell? ⟨t, 0, none⟩ = some (.pointer (some ⟨f, 0, none⟩)) ∧ Kept (fun k => k = t) w w' := by
  have h6 := @run_callFunc_extern Tryz.prog 128 _ (fun args => ReflectliteValue.unpack (args.getD 0 (.tuple #[]))) Tryz.func128 (by kernel_rfl) (by kernel_rfl) (by kernel_rfl) (by kernel_rfl)
  have h10 := @run_callFunc_extern Tryz.prog 36 _ ReflectliteType.typeOf Tryz.func36 (by kernel_rfl) (by kernel_rfl) (by kernel_rfl) (by kernel_rfl)
  have h35 := @run_callFunc_extern Tryz.prog 166 _ (ReflectliteType.relation "AssignableTo" ReflectliteType.assignableTo) Tryz.func166 (by kernel_rfl) (by kernel_rfl) (by kernel_rfl) (by kernel_rfl)
  have h11 := @run_callFunc_extern Tryz.prog 142 _ (ReflectliteValue.method (ReflectliteValue.valueError "reflectlite.Value.Elem" 0) ReflectliteValue.elem) Tryz.func142 (by kernel_rfl) (by kernel_rfl) (by kernel_rfl) (by kernel_rfl)
  have h12 := @run_callFunc_extern Tryz.prog 143 _ ReflectliteValue.set Tryz.func143 (by kernel_rfl) (by kernel_rfl) (by kernel_rfl) (by kernel_rfl)
  have tO := typeOfP
  have mA := methodAssignableTo
  have a25 := assignableP
  have v25 := valueOfP
  have hvl : vb < w.heap.size := World.block_lt_of_cell? w _ hvb
  have htl : t < w.heap.size := World.block_lt_of_cell? w _ ht0
  have el := elemVPP ⟨vb, 0, none⟩ ⟨t, 0, none⟩ (w.alloc (.cells #[.pointer (some ⟨2, 203, none⟩), .pointer (some ⟨vb, 0, none⟩), .int .u64 150] 225)) (by rw [World.cell?_alloc_lt _ _ ⟨vb, 0, none⟩ hvl]; exact hvb)
  have st := setP ⟨t, 0, none⟩ ⟨w.heap.size + 1, 0, none⟩ ⟨f, 0, none⟩ old ((w.alloc (.cells #[.pointer (some ⟨2, 203, none⟩), .pointer (some ⟨vb, 0, none⟩), .int .u64 150] 225)).alloc (.cells #[.pointer (some ⟨f, 0, none⟩)] 157))
    (by rw [World.cell?_alloc_at _ _ _ _ (by simp)]; rfl)
    (by rw [World.cell?_alloc_lt _ _ ⟨t, 0, none⟩ (by simp; omega), World.cell?_alloc_lt _ _ ⟨t, 0, none⟩ htl]; exact ht0)
    (by rw [World.frozen?_alloc_old _ _ ⟨t, 0, none⟩ (by simp; omega), World.frozen?_alloc_old _ _ ⟨t, 0, none⟩ (Nat.ne_of_lt htl)]; exact hf0)
  have Ht0 : Hid (w.cell? ⟨t, 0, none⟩ = some old) := ht0
  clear hvb ht0 hf0
  go_enter Tryz.func131, Tryz.ntmps131
  go_wp2
  refine wp_loop_rounds 1 ?_
  rw [rounds_succ]
  go_wp2
  go_ret
  refine ⟨rfl, ?_, ((Kept.set_at (Kept.refl _ w) 0 _).alloc _).alloc _⟩
  have hs : (w.setCell ⟨t, 0, none⟩ (.pointer (some ⟨f, 0, none⟩))).cell? ⟨t, 0, none⟩ = some (.pointer (some ⟨f, 0, none⟩)) := World.cell?_setCell_same _ _ _ Ht0.out
  have hz : t < (w.setCell ⟨t, 0, none⟩ (.pointer (some ⟨f, 0, none⟩))).heap.size := by simpa using htl
  exact ((((Kept.refl nothing (w.setCell ⟨t, 0, none⟩ (.pointer (some ⟨f, 0, none⟩)))).alloc _).alloc _).cell (p := ⟨t, 0, none⟩) hz (fun h => h)).trans hs

set_option maxRecDepth 100000 in
set_option maxHeartbeats 8000000 in
theorem as_refusal (b f : Nat) (s : ByteArray) (code : Int) (t : Nat) (old : Value) (w : World) (hg : w.cell? ⟨1, 0, none⟩ = some (.iface 121 (.agg #[.pointer (some ⟨2, 44, none⟩)])))
    (hb : w.heap[b]? = some (.cells #[.string s, .pointer (some ⟨f, 0, none⟩)] 161 (0, 0))) (hf : w.heap[f]? = some (.cells #[.int .i64 code, .int .i64 0] 159 (0, 0))) (hc8 : code ≠ 8) (hc9 : code ≠ 9)
    (ht0 : w.cell? ⟨t, 0, none⟩ = some old) (hf0 : w.frozen? ⟨t, 0, none⟩ = false) :
    Calls Tryz.prog 110 #[.iface 156 (.pointer (some ⟨b, 0, none⟩)), .iface 203 (.pointer (some ⟨t, 0, none⟩))] w fun ev w' => ev = .returned (.bool true) ∧ w'.cell? ⟨t, 0, none⟩ = some (.pointer (some ⟨f, 0, none⟩)) ∧ Kept (fun k => k = t) w w' := by
  have h6 := @run_callFunc_extern Tryz.prog 128 _ (fun args => ReflectliteValue.unpack (args.getD 0 (.tuple #[]))) Tryz.func128 (by kernel_rfl) (by kernel_rfl) (by kernel_rfl) (by kernel_rfl)
  have h7 := @run_callFunc_extern Tryz.prog 129 _ (ReflectliteValue.methodAny (ReflectliteValue.valueError "reflectlite.Value.Type" 0) (fun t _ _ _ => ReflectliteType.toType t)) Tryz.func129 (by kernel_rfl) (by kernel_rfl) (by kernel_rfl) (by kernel_rfl)
  have h8 := @run_callFunc_extern Tryz.prog 130 _ (ReflectliteValue.method (ReflectliteValue.valueError "reflectlite.Value.IsNil" 0) ReflectliteValue.isNil) Tryz.func130 (by kernel_rfl) (by kernel_rfl) (by kernel_rfl) (by kernel_rfl)
  have h27 := @run_callFunc_extern Tryz.prog 161 _ (ReflectliteType.abiMethod fun t => do pure (.int .u8 (← Rtype.kind t))) Tryz.func161 (by kernel_rfl) (by kernel_rfl) (by kernel_rfl) (by kernel_rfl)
  have h37 := @run_callFunc_extern Tryz.prog 168 _ (ReflectliteType.method ReflectliteType.elem) Tryz.func168 (by kernel_rfl) (by kernel_rfl) (by kernel_rfl) (by kernel_rfl)
  have h38 := @run_callFunc_extern Tryz.prog 169 _ (ReflectliteType.relation "Implements" ReflectliteType.implements_) Tryz.func169 (by kernel_rfl) (by kernel_rfl) (by kernel_rfl) (by kernel_rfl)
  have h10 := @run_callFunc_extern Tryz.prog 36 _ ReflectliteType.typeOf Tryz.func36 (by kernel_rfl) (by kernel_rfl) (by kernel_rfl) (by kernel_rfl)
  have h35 := @run_callFunc_extern Tryz.prog 166 _ (ReflectliteType.relation "AssignableTo" ReflectliteType.assignableTo) Tryz.func166 (by kernel_rfl) (by kernel_rfl) (by kernel_rfl) (by kernel_rfl)
  have h11 := @run_callFunc_extern Tryz.prog 142 _ (ReflectliteValue.method (ReflectliteValue.valueError "reflectlite.Value.Elem" 0) ReflectliteValue.elem) Tryz.func142 (by kernel_rfl) (by kernel_rfl) (by kernel_rfl) (by kernel_rfl)
  have h12 := @run_callFunc_extern Tryz.prog 143 _ ReflectliteValue.set Tryz.func143 (by kernel_rfl) (by kernel_rfl) (by kernel_rfl) (by kernel_rfl)
  have tR := typeOfR
  have mA := methodAssignableTo
  have aR := assignableR
  have f6 := valueOfPP
  have f7 := typePP
  have mK := methodKind
  have mE := methodElem
  have mI := methodImplements
  have k27 := kindPP
  have k25 := kindP
  have e27 := elemPP
  have i25 := implementsP
  have nA := noAsR
  have uR := noUnwR
  have vR := hasUnwsR
  have mU := methodUnwrap
  have hblt := blk_lt hb
  have hlt : 1 < w.heap.size := World.block_lt_of_cell? w _ hg
  have htl : t < w.heap.size := World.block_lt_of_cell? w _ ht0
  have hg2 : ((w.alloc (.cells #[.pointer (some ⟨t, 0, none⟩)] 203)).alloc (.cells #[.pointer (some ⟨2, 203, none⟩), .pointer (some ⟨w.heap.size, 0, none⟩), .int .u64 150] 225)).cell? ⟨1, 0, none⟩ = some (.iface 121 (.agg #[.pointer (some ⟨2, 44, none⟩)])) := by
    rw [World.cell?_alloc_lt _ _ ⟨1, 0, none⟩ (by simp; omega), World.cell?_alloc_lt _ _ ⟨1, 0, none⟩ hlt]; exact hg
  have n8 := isNilPP ⟨w.heap.size, 0, none⟩ ⟨t, 0, none⟩ ((w.alloc (.cells #[.pointer (some ⟨t, 0, none⟩)] 203)).alloc (.cells #[.pointer (some ⟨2, 203, none⟩), .pointer (some ⟨w.heap.size, 0, none⟩), .int .u64 150] 225)) (by simp)
  have Hun : Hid (∀ W : World, Kept nothing w W → Calls Tryz.prog 177 #[.pointer (some ⟨b, 0, none⟩)] W fun e w' => e = .returned (.slice (some ⟨W.heap.size, 0, none⟩) 1 1) ∧ w' = W.alloc (.cells #[.iface 157 (.pointer (some ⟨f, 0, none⟩))] 44)) := fun W hk => unwrap_any b f s code W (hk.get hb (fun h => h)) (hk.get hf (fun h => h)) hc8 hc9
  have Has : Hid (∀ W : World, Kept nothing (w.alloc (.cells #[.pointer (some ⟨t, 0, none⟩)] 203)) W → Calls Tryz.prog 131 #[.iface 157 (.pointer (some ⟨f, 0, none⟩)), .iface 203 (.pointer (some ⟨t, 0, none⟩)), .agg #[.pointer (some ⟨2, 203, none⟩), .pointer (some ⟨w.heap.size, 0, none⟩), .int .u64 150], .iface 121 (.agg #[.pointer (some ⟨2, 157, none⟩)])] W fun ev w' => ev = .returned (.bool true) ∧ w'.cell? ⟨t, 0, none⟩ = some (.pointer (some ⟨f, 0, none⟩)) ∧ Kept (fun k => k = t) w w') := by
    intro W hk
    have hka : Kept nothing w (w.alloc (.cells #[.pointer (some ⟨t, 0, none⟩)] 203)) := (Kept.refl nothing w).alloc _
    have hk0 := hka.trans hk
    have ht0W := (hk0.cell (p := ⟨t, 0, none⟩) htl (fun h => h)).trans ht0
    have hfW := (hk0.frozen (p := ⟨t, 0, none⟩) htl (fun h => h)).trans hf0
    have hvW : W.cell? ⟨w.heap.size, 0, none⟩ = some (.pointer (some ⟨t, 0, none⟩)) := (hk.cell (p := ⟨w.heap.size, 0, none⟩) (by simp) (fun h => h)).trans (by simp)
    refine (as_fault f t w.heap.size old W hvW ht0W hfW).mono ?_
    rintro ev w' ⟨rfl, hc, hkt⟩
    exact ⟨rfl, hc, (hk0.mono (fun _ _ h => h.elim)).trans hkt⟩
  clear hb hf hc8 hc9
  go_enter Tryz.func110, Tryz.ntmps110
  go_wp2
  refine wp_loop_rounds 1 ?_
  rw [rounds_succ]
  go_wp2_with (go_at_call 177; refine (Hun.out _ ((((Kept.refl nothing w).alloc _).alloc _).alloc _)).mono ?_; rintro e w' ⟨rfl, rfl⟩)
  refine wp_loop_rounds 1 ?_
  rw [rounds_succ]
  go_wp2_with (go_at_call 131; refine (Has.out _ (((((Kept.refl nothing _).alloc _).alloc _).alloc _))).mono ?_; rintro e w' ⟨rfl, hc, hk⟩)
  go_ret
  exact ⟨rfl, hc, hk⟩
end Go.Proofs.YtdnjfjdhkmngjaaGreatDoor
