import Derived.Test.YtdnjfjdhkmngjaaGreatDoorL
import Derived.Deep.RegionLaw
namespace Go.Proofs.YtdnjfjdhkmngjaaGreatDoor
open Go.RowKit

theorem step_append (t e : TypeId) (z : Value) (size bytes : Nat) (ht : Tryz.prog.underlying t = some (.slice e)) (hinfo : (Tryz.prog.info? e).map (fun i => (i.zero, i.size, i.bytes)) = some (some z, size, bytes)) (hzs : z.cells.size = size) (hsz : 0 < size) (hby : 0 < bytes)
    (w : World) {ops : Array Oper} {tm : Array Value} {o : Oper} {a : Act} {K : Act → World → Prop} {Q : Exit → Act → World → Prop} {E : Prop} (hgd : o.guard = none) (s x : Operand)
    (ho : o.op = .call { callee := .builtin .append, args := #[s, x], argTypes := #[t, t] })
    (base : Nat) (v : Value) (n : Nat) (xs : List Value) (hs : a.eval s = v) (hown : w.ownsRow base e size v n xs)
    (ad : Addr) (m c : Nat) (news : List Value) (hx : a.eval x = .slice (some ad) m c) (hl : news.length = m * size) (hnews : ∀ j u, news[j]? = some u → w.cell? (ad.add j) = some u) (h1 : ∀ u ∈ news, u.oneCell' = true)
    (hbytes : (n + m) * bytes ≤ 140737488355328) (hbase : base ≤ w.heap.size)
    (h : ∀ v' w', w'.ownsRow base e size v' (n + m) (xs ++ news) → w.grownBy w' v.ownBlock → (v'.ownBlock = v.ownBlock ∨ v'.ownBlock = some w.heap.size) → K (a.put o.dst v') w') :
    if Region.wanted o (yielded ops tm) = true then Oper.wp Tryz.prog o a w K Q else E := by
  have hw : Region.wanted o (yielded ops tm) = true := by simp [Region.wanted, hgd]
  rw [if_pos hw]
  obtain ⟨ib, hib, hz, hsize, hbyt⟩ := info_parts hinfo
  subst hsize
  subst hbyt
  have h63 : n + m ≤ maxLen := by
    have := Nat.le_mul_of_pos_right (n + m) hby
    simp only [maxLen]; omega
  obtain ⟨v', w', hr, h2, h3, h4⟩ := run_append_tell (P := Tryz.prog) w base t o.type e ib z ht hib hz hzs hsz v n xs hown ad m c news hl hnews h1 h63 hbytes hbase
  unfold Oper.wp execOp
  simp only [ho, resolve, invoke, builtin, Sem.run_bind, Sem.run_pure, Result.andThen_ok, List.map_toArray, List.map_cons, List.map_nil, hs, hx, hr]
  exact h v' w' h2 h3 h4

theorem step_call (w : World) {ops : Array Oper} {tm : Array Value} {o : Oper} {a : Act} {K : Act → World → Prop} {Q : Exit → Act → World → Prop} {E : Prop} (hgd : o.guard = none) (f : FuncId) (x : Operand) (ts : Array TypeId)
    (ho : o.op = .call { callee := .value (.func f), args := #[x], argTypes := ts }) (hf : ∀ (args : Array Value) (w : World), (callFunc f args).run Tryz.prog w = .ok (.enter f args) w) (v0 : Value) (ha : a.eval x = v0) (R : Value → World → Prop)
    (hc : Calls Tryz.prog f #[v0] w fun e w' => ∃ v, e = .returned v ∧ R v w') (h : ∀ v w', R v w' → K (a.put o.dst v) w') :
    if Region.wanted o (yielded ops tm) = true then Oper.wp Tryz.prog o a w K Q else E := by
  have hw : Region.wanted o (yielded ops tm) = true := by simp [Region.wanted, hgd]
  rw [if_pos hw]
  subst ha
  unfold Oper.wp
  have hr : (execOp a.eval o).run Tryz.prog w = .ok (.enter f #[a.eval x]) w := by
    unfold execOp
    simp [ho, resolve, invoke, go_sem, hf]
  rw [hr, Oper.upon_enter]
  refine hc.mono ?_
  rintro e w' ⟨v, rfl, hR⟩
  exact h v w' hR

theorem enter_sClone : ∀ (args : Array Value) (w : World), (callFunc 35 args).run Tryz.prog w = .ok (.enter 35 args) w := fun _ _ => by kernel_rfl

theorem und_psnaps : Tryz.prog.underlying 71 = some (.slice 84) := by kernel_rfl
theorem info_psnap : (Tryz.prog.info? 84).map (fun i => (i.zero, i.size, i.bytes)) = some (some (.agg #[.string ⟨#[]⟩, .slice none 0 0]), 2, 40) := by kernel_rfl

/-- The program's volume, its snapshots put in. -/
theorem prep_snaps {w : World} {b : Nat} {ι : Nat → Nat} {R R' : Vol} {vn vs v : Value} {sv' : List SV} {n : Nat} (hvol : w.heap[b]? = some (.cells #[.int .i64 (R.pool : Int), vn, vs] 73 (0, 0)))
    (hnow : Tab w ι vn R.blocks) (hrow : w.ownsRow 0 84 2 v n (scells sv')) (hn : n = sv'.length) (he : ∀ t ∈ sv', Tab w ι t.2.1 t.2.2) (hR' : R' = { R with snaps := sv'.map SV.out }) (hinj : InjOn ι (allIds R')) :
    PRep (w.setCell ⟨b, 2, none⟩ v) b ι R' vn v sv' := by
  subst hn
  subst hR'
  have hk : Kept (fun k => k = b) w (w.setCell ⟨b, 2, none⟩ v) := (Kept.refl _ w).set_at _ _
  have hne : ∀ {t' : TypeId}, t' ≠ 73 → ∀ g cur, w.heap[g]? = some (.cells cur t' (0, 0)) → ¬ g = b := by
    intro t' ht g cur hg hgb
    exact blk_ne hg hvol ht hgb
  refine ⟨?_, hnow.kept hk (hne (by decide)) (hne (by decide)), owns_kept hrow hk (fun g hg => by obtain ⟨cur, hc⟩ := owns_tag hrow hg; exact hne (by decide) g cur hc), rfl, fun t ht => (he t ht).kept hk (hne (by decide)) (hne (by decide)), hinj⟩
  have := blk_set hvol 2 v
  simpa using this

theorem InjOn.sub {ι : Nat → Nat} {l m : List Nat} (h : InjOn ι l) (hs : ∀ c ∈ m, c ∈ l) : InjOn ι m := fun c hc d hd => h c (hs c hc) d (hs d hd)
end Go.Proofs.YtdnjfjdhkmngjaaGreatDoor
