import Derived.Test.YtdnjfjdhkmngjaaGreatDoorM7
import Derived.Test.YtdnjfjdhkmngjaaGreatDoorL
namespace Go.Proofs.YtdnjfjdhkmngjaaGreatDoor
open Go.RowKit

/-- A list all of whose texts are one. -/
abbrev AllX (w : World) (v : Value) (n : Nat) (x : ByteArray) : Prop := w.ownsRow 0 9 1 v n (List.replicate n (.string x))

theorem rep_take (n m : Nat) (x : Value) (h : m ≤ n) : (List.replicate n x).take m = List.replicate m x := by rw [List.take_replicate, Nat.min_eq_left h]
theorem allx_append {w w' : World} {base : Nat} {t ty : TypeId} {l : Value} {n m c : Nat} {x : ByteArray} {a : Addr} {v' : Value} (ht : Tryz.prog.underlying t = some (.slice 9)) (hl : w.ownsRow base 9 1 l n (List.replicate n (.string x)))
    (hnews : ∀ j u, (List.replicate m (Value.string x))[j]? = some u → w.cell? (a.add j) = some u) (hb : (n + m) * 16 ≤ 140737488355328) (hbase : base ≤ w.heap.size)
    (hr : (Builtin.append_ #[t, t] ty #[l, .slice (some a) m c]).run Tryz.prog w = .ok v' w') :
    (w'.ownsRow base 9 1 v' (n + m) (List.replicate (n + m) (.string x)) ∧ w.grownBy w' l.ownBlock) ∧ ∀ v1 n1, AllX w v1 n1 x → AllX w' v1 n1 x := by
  obtain ⟨ib, hib, hz, hsize, hbyt⟩ := info_parts info_str
  have h1 : ∀ u ∈ List.replicate m (Value.string x), u.oneCell' = true := by
    intro u hu; rw [List.eq_of_mem_replicate hu]; rfl
  have h63 : n + m ≤ maxLen := by simp only [maxLen]; omega
  obtain ⟨v2, w2, hr2, r1, r2, r3⟩ := run_append_tell (P := Tryz.prog) w base t ty 9 ib _ ht hib hz (by rw [hsize]; rfl) (by rw [hsize]; decide) l n _ (by rw [hsize]; exact hl) a m c (List.replicate m (.string x)) (by rw [hsize]; simp) hnews h1 h63 (by rw [hbyt]; exact hb) hbase
  rw [hr] at hr2
  cases hr2
  rw [hsize, List.replicate_append_replicate] at r1
  refine ⟨⟨r1, r2⟩, fun v1 n1 h => ?_⟩
  rcases hl.2 with ⟨rfl, rfl⟩ | ⟨g, cap, cur, rfl, hbg, hg, hnc, hcm, hcs, htake⟩
  · exact owns_kept h ((Kept.refl nothing w).grown r2 (by simp [Value.ownBlock])) (fun _ _ h => h)
  · by_cases hroom : n + m ≤ cap
    · have hfit : n * ib.size + (List.replicate m (Value.string x)).length ≤ cur.size := by rw [hsize, hcs]; simp; omega
      have hr' := run_append_room (P := Tryz.prog) w t ty 9 ib ht hib g n cap cur hg a m c (List.replicate m (.string x)) (by rw [hsize]; simp) hnews h1 hroom hfit
      rw [hr'] at hr
      cases hr
      by_cases hv : v1.ownBlock = some g
      · refine ⟨h.1, ?_⟩
        rcases h.2 with hn | ⟨g1, cap1, cur1, rfl, _, hg1, hn1, hm1, hc1, ht1⟩
        · exact .inl hn
        · simp [Value.ownBlock] at hv
          subst hv
          rw [hg] at hg1
          simp only [Option.some.injEq, Obj.cells.injEq, and_true] at hg1
          subst hg1
          refine .inr ⟨g1, cap1, _, rfl, Nat.zero_le _, setRow_heap w g1 cur _ 9 (0, 0) hg, hn1, hm1, ?_, ?_⟩
          · simp [hsize]; simp at hcs hc1; omega
          · rw [List.toList_toArray, hsize]
            simp only [Nat.mul_one] at htake ht1 hcs hc1 ⊢
            rw [htake]
            apply List.ext_getElem?
            intro j
            by_cases hj : j < n1
            · have hcj : cur.toList[j]? = some (.string x) := by
                have := congrArg (fun l => l[j]?) ht1
                simp only [List.getElem?_take, hj, if_true, List.getElem?_replicate] at this
                exact this
              rw [List.getElem?_take, if_pos hj, List.getElem?_replicate, if_pos hj]
              by_cases hjn : j < n + m
              · rw [List.getElem?_append_left (by simp; omega), List.replicate_append_replicate, List.getElem?_replicate, if_pos hjn]
              · rw [List.getElem?_append_right (by simp; omega), List.getElem?_drop]
                simp only [List.length_append, List.length_replicate]
                rw [show n + m + (j - (n + m)) = j from by omega]
                exact hcj
            · rw [List.getElem?_take, if_neg hj, List.getElem?_replicate, if_neg hj]
      · exact owns_kept h ((Kept.refl (fun k => k = g) w).grown r2 (fun k hk => .inl (by simpa [Value.ownBlock] using hk.symm))) (fun k hk e => hv (by rw [hk, e]))
    · have holds : ∀ j u, (List.replicate n (Value.string x))[j]? = some u → w.cell? ((⟨g, 0, none⟩ : Addr).add j) = some u := hl.cells (g := g) rfl
      have hr' := run_append_grow (P := Tryz.prog) w t ty 9 ib _ ht hib hz ⟨g, 0, none⟩ n cap _ (by rw [hsize]; simp) holds a m c (List.replicate m (.string x)) (by rw [hsize]; simp) hnews (by omega) (by omega) (growslice_fits (by omega) (by rw [hbyt]; exact hb))
      rw [hr'] at hr
      cases hr
      exact owns_kept h (((Kept.refl nothing w).drew).alloc _) (fun _ _ h => h)

theorem wp_append_x (x : ByteArray) (w : World) {ops : Array Oper} {rest : List Oper} {o : Oper} {a : Act} {Q : Exit → Act → World → Prop} (hgd : o.guard = none) (s y : Operand)
    (ho : o.op = .call { callee := .builtin .append, args := #[s, y], argTypes := #[32, 32] })
    (base : Nat) (l : Value) (n : Nat) (hs : a.eval s = l) (hown : w.ownsRow base 9 1 l n (List.replicate n (.string x)))
    (ad : Addr) (m c : Nat) (hx : a.eval y = .slice (some ad) m c) (hnews : ∀ j u, (List.replicate m (Value.string x))[j]? = some u → w.cell? (ad.add j) = some u) (hbytes : (n + m) * 16 ≤ 140737488355328) (hbase : base ≤ w.heap.size)
    (h : ∀ v' w', w'.ownsRow base 9 1 v' (n + m) (List.replicate (n + m) (.string x)) → w.grownBy w' l.ownBlock → (∀ v1 n1, AllX w v1 n1 x → AllX w' v1 n1 x) → wpList Tryz.prog ops Q rest (a.put o.dst v') w') : wpList Tryz.prog ops Q (o :: rest) a w := by
  obtain ⟨ib, hib, hz, hsize, hbyt⟩ := info_parts info_str
  have h1 : ∀ u ∈ List.replicate m (Value.string x), u.oneCell' = true := by
    intro u hu; rw [List.eq_of_mem_replicate hu]; rfl
  have h63 : n + m ≤ maxLen := by simp only [maxLen]; omega
  obtain ⟨v', w', hr, _, _, _⟩ := run_append_tell (P := Tryz.prog) w base 32 o.type 9 ib _ und_strs hib hz (by rw [hsize]; rfl) (by rw [hsize]; decide) l n _ (by rw [hsize]; exact hown) ad m c (List.replicate m (.string x)) (by rw [hsize]; simp) hnews h1 h63 (by rw [hbyt]; exact hbytes) hbase
  have hA := allx_append und_strs hown hnews hbytes hbase hr
  refine wpList_plain hgd fun _ hK => ?_
  unfold Oper.wp execOp
  simp only [ho, resolve, invoke, builtin, Sem.run_bind, Sem.run_pure, Result.andThen_ok, List.map_toArray, List.map_cons, List.map_nil, hs, hx, hr]
  exact hK _ _ (h v' w' hA.1.1 hA.1.2 hA.2)
end Go.Proofs.YtdnjfjdhkmngjaaGreatDoor
