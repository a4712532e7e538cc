import Derived.Test.YtdnjfjdhkmngjaaGreatDoorY4
namespace Go.Proofs.YtdnjfjdhkmngjaaGreatDoor
open Go.RowKit

def opcells (l : List OpV) : List Value := l.flatMap fun o => o.cells.toList
theorem opcells_get (l : List OpV) (i j : Nat) (o : OpV) (h : l[i]? = some o) (hj : j < 7) : (opcells l)[i * 7 + j]? = o.cells[j]? := by
  induction l generalizing i with
  | nil => simp at h
  | cons x l ih =>
    have hx : x.cells.toList.length = 7 := rfl
    cases i with
    | zero =>
      simp at h; subst h
      simp only [opcells, List.flatMap_cons, Nat.zero_mul, Nat.zero_add]
      rw [List.getElem?_append_left (by rw [hx]; exact hj)]
      simp
    | succ i =>
      simp at h
      simp only [opcells, List.flatMap_cons]
      rw [List.getElem?_append_right (by rw [hx]; omega), hx, show (i + 1) * 7 + j - 7 = i * 7 + j from by omega]
      exact ih i h
theorem opcells_len (l : List OpV) : (opcells l).length = l.length * 7 := by
  induction l with
  | nil => rfl
  | cons x l ih =>
    have hx : x.cells.toList.length = 7 := rfl
    simp only [opcells, List.flatMap_cons, List.length_append, List.length_cons] at ih ⊢
    rw [hx]; omega
theorem opcells_append (l m : List OpV) : opcells (l ++ m) = opcells l ++ opcells m := by simp [opcells]
theorem opcells_one (l : List OpV) : ∀ u ∈ opcells l, u.oneCell' = true := by
  intro u hu
  simp only [opcells, List.mem_flatMap] at hu
  obtain ⟨o, _, ho⟩ := hu
  simp [OpV.cells] at ho
  rcases ho with rfl | rfl | rfl | rfl | rfl | rfl | rfl <;> rfl
/-- The steps that go ahead of a script. -/
def ahead : List OpV := [⟨1, 0, 2, 2, ⟨#[]⟩, ⟨#[]⟩, ⟨#[]⟩⟩, ⟨2, 0, 0, 0, ⟨#[97, 98]⟩, ⟨#[]⟩, ⟨#[]⟩⟩, ⟨4, 0, 0, 0, ⟨#[97]⟩, ⟨#[]⟩, ⟨#[]⟩⟩, ⟨2, 0, 0, 0, ⟨#[99]⟩, ⟨#[]⟩, ⟨#[]⟩⟩, ⟨3, 0, 0, 0, ⟨#[97]⟩, ⟨#[]⟩, ⟨#[]⟩⟩, ⟨6, 0, 0, 0, ⟨#[]⟩, ⟨#[]⟩, ⟨#[]⟩⟩, ⟨8, 0, 0, 0, ⟨#[]⟩, ⟨#[97]⟩, ⟨#[]⟩⟩, ⟨9, 0, 99, 0, ⟨#[]⟩, ⟨#[]⟩, ⟨#[]⟩⟩]
theorem ahead_ok : ∀ o ∈ ahead, o.Ok := by
  intro o ho
  simp [ahead] at ho
  rcases ho with rfl | rfl | rfl | rfl | rfl | rfl | rfl | rfl <;> exact ⟨by decide, by decide, by decide, by decide, by decide, by decide, by simp [maxLen, ByteArray.size], by simp [maxLen, ByteArray.size], by simp [maxLen, ByteArray.size]⟩
theorem und_ops : Tryz.prog.underlying 22 = some (.slice 56) := by kernel_rfl
theorem info_op : (Tryz.prog.info? 56).map (fun i => (i.zero, i.size, i.bytes)) = some (some (.agg #[.int .i64 0, .int .i64 0, .int .i64 0, .int .i64 0, .string ⟨#[]⟩, .string ⟨#[]⟩, .string ⟨#[]⟩]), 7, 80) := by kernel_rfl
theorem grownBy_refl (w : World) (row : Option Nat) : w.grownBy w row := by
  constructor <;> first | rfl | exact Nat.le_refl _ | (intros; first | rfl | assumption)
theorem wp_append_ops (w : World) {ops : Array Oper} {rest : List Oper} {o : Oper} {a : Act} {Q : Exit → Act → World → Prop} (hgd : o.guard = none) (s x : Operand)
    (ho : o.op = .call { callee := .builtin .append, args := #[s, x], argTypes := #[22, 22] })
    (base g n cap : Nat) (xs : List Value) (hs : a.eval s = .slice (some ⟨g, 0, none⟩) n cap) (hown : w.ownsRow base 56 7 (.slice (some ⟨g, 0, none⟩) n cap) n xs) (hn : n ≤ cap)
    (sa : Option Addr) (m c : Nat) (news : List Value) (hx : a.eval x = .slice sa m c) (hl : news.length = m * 7) (hnews : (sa = none ∧ m = 0) ∨ ∃ ad, sa = some ad ∧ ∀ j u, news[j]? = some u → w.cell? (ad.add j) = some u) (h1 : ∀ u ∈ news, u.oneCell' = true)
    (hbytes : (n + m) * 80 ≤ 140737488355328) (hbase : base ≤ w.heap.size)
    (h : ∀ v' w', w'.ownsRow base 56 7 v' (n + m) (xs ++ news) → w.grownBy w' (some g) → wpList Tryz.prog ops Q rest (a.put o.dst v') w') : wpList Tryz.prog ops Q (o :: rest) a w := by
  rcases hnews with ⟨rfl, rfl⟩ | ⟨ad, rfl, hnews⟩
  · obtain ⟨ib, hib, hz, hsize, hbyt⟩ := info_parts info_op
    have hr : (Builtin.append_ #[22, 22] o.type #[.slice (some ⟨g, 0, none⟩) n cap, .slice none 0 c]).run Tryz.prog w = .ok (.slice (some ⟨g, 0, none⟩) n cap) w := by
      simp [Builtin.append_, run_underlying und_ops, sizeOf, typeInfo, hib, Builtin.lenOf, Builtin.firstCells, hn, storeCells]
    have h0 : news = [] := List.eq_nil_of_length_eq_zero (by omega)
    subst h0
    refine wpList_plain hgd fun _ hK => ?_
    unfold Oper.wp execOp
    simp only [ho, resolve, invoke, builtin, Sem.run_bind, Sem.run_pure, Result.andThen_ok, List.map_toArray, List.map_cons, List.map_nil, hs, hx, hr]
    exact hK _ _ (h _ _ (by rw [List.append_nil]; exact hown) (grownBy_refl w _))
  · exact wp_append _ _ _ 7 80 und_ops info_op rfl (by decide) (by decide) w hgd s x ho base _ n xs hs hown ad m c news hx hl hnews h1 hbytes hbase (fun v' w' h2 h3 _ => h v' w' h2 h3)

set_option maxRecDepth 100000 in
theorem owns_ahead (w : World) (o : Obj) : ((w.alloc o).alloc (.cells #[.int .i64 1, .int .i64 0, .int .i64 2, .int .i64 2, .string ⟨#[]⟩, .string ⟨#[]⟩, .string ⟨#[]⟩, .int .i64 2, .int .i64 0, .int .i64 0, .int .i64 0, .string ⟨#[97, 98]⟩, .string ⟨#[]⟩, .string ⟨#[]⟩, .int .i64 4, .int .i64 0, .int .i64 0, .int .i64 0, .string ⟨#[97]⟩, .string ⟨#[]⟩, .string ⟨#[]⟩, .int .i64 2, .int .i64 0, .int .i64 0, .int .i64 0, .string ⟨#[99]⟩, .string ⟨#[]⟩, .string ⟨#[]⟩, .int .i64 3, .int .i64 0, .int .i64 0, .int .i64 0, .string ⟨#[97]⟩, .string ⟨#[]⟩, .string ⟨#[]⟩, .int .i64 6, .int .i64 0, .int .i64 0, .int .i64 0, .string ⟨#[]⟩, .string ⟨#[]⟩, .string ⟨#[]⟩, .int .i64 8, .int .i64 0, .int .i64 0, .int .i64 0, .string ⟨#[]⟩, .string ⟨#[97]⟩, .string ⟨#[]⟩, .int .i64 9, .int .i64 0, .int .i64 99, .int .i64 0, .string ⟨#[]⟩, .string ⟨#[]⟩, .string ⟨#[]⟩] 56)).ownsRow w.heap.size 56 7 (.slice (some ⟨w.heap.size + 1, 0, none⟩) 8 8) 8 (opcells ahead) := by
  refine ⟨rfl, .inr ⟨w.heap.size + 1, 8, _, rfl, by omega, alloc_at2 w o _, Nat.le_refl _, by simp [maxLen], rfl, rfl⟩⟩
theorem cell_two_later {w : World} {o o' : Obj} {p : Addr} {u : Value} (h : w.cell? p = some u) : ((w.alloc o).alloc o').cell? p = some u := by
  have hlt := World.block_lt_of_cell? w p h
  exact ((((Kept.refl nothing w).alloc o).alloc o').cell hlt (fun h => h)).trans h

set_option maxRecDepth 100000 in
set_option maxHeartbeats 4000000 in
/-- The loop over all steps. -/
theorem plays_any (w : World) (sa : Option Addr) (n cap : Nat) (sops : List OpV) (hlen : sops.length = n) (hn : n ≤ 1759218604390) (hok : ∀ o ∈ sops, o.Ok) (hG : Globals w) (h2 : 2 ≤ w.heap.size)
    (hsc : (sa = none ∧ n = 0) ∨ ∃ ad, sa = some ad ∧ ∀ j u, (opcells sops)[j]? = some u → w.cell? (ad.add j) = some u) (last : Int) (hlast1 : 1 ≤ last) (hlast9 : last ≤ 9) :
    Calls Tryz.prog 7 #[.slice sa n cap, .int .i64 last] w fun e w' => e = .returned (.bool true) ∧ Kept nothing w w' := by
  have Hok : Hid (∀ o ∈ ahead ++ sops, o.Ok) := by
    intro o ho
    rw [List.mem_append] at ho
    exact ho.elim (ahead_ok o) (hok o)
  have HG : Hid (Globals w) := hG
  have Hlen : Hid (sops.length = n) := hlen
  clear hok hG hlen
  have Hc : Hid ((sa = none ∧ n = 0) ∨ ∃ ad, sa = some ad ∧ ∀ j u, (opcells sops)[j]? = some u → w.cell? (ad.add j) = some u) := hsc
  clear hsc
  go_enter Tryz.func7, Tryz.ntmps7
  go_wp2_with (at_builtin; refine wp_append_ops _ rfl _ _ rfl w.heap.size (w.heap.size + 1) 8 8 (opcells ahead) rfl ?h1 (Nat.le_refl 8) sa n cap (opcells sops) rfl ?h2 ?h3 (opcells_one _) ?h4 ?h5 ?h6)
  case h1 => exact owns_ahead w _
  case h2 => rw [opcells_len, Hlen.out]
  case h3 =>
    rcases Hc.out with h | ⟨ad, ha, h⟩
    · exact .inl h
    · exact .inr ⟨ad, ha, fun j u hu => cell_two_later (h j u hu)⟩
  case h4 => omega
  case h5 => simp; omega
  intro vA wA hoA hgA0
  obtain ⟨gA, cA, hvA, hgAl, _, _, _⟩ := owns_parts hoA (by omega)
  subst hvA
  obtain ⟨N, hNe⟩ : ∃ N, N = 8 + n := ⟨_, rfl⟩
  have hNb : N ≤ 1759218604398 := by omega
  have hN1 : 1 ≤ N := by omega
  rw [← hNe] at hoA ⊢
  have hAll : wA.ownsRow 0 56 7 (.slice (some ⟨gA, 0, none⟩) N cA) N (opcells (ahead ++ sops)) := by rw [opcells_append]; exact owns_weaken hoA
  have hkC := ((Kept.refl (fun k => k = w.heap.size + 1) (w.alloc (.cells #[.slice none 0 0, .slice none 0 0, .slice none 0 0] 54))).alloc (.cells #[.int .i64 1, .int .i64 0, .int .i64 2, .int .i64 2, .string ⟨#[]⟩, .string ⟨#[]⟩, .string ⟨#[]⟩, .int .i64 2, .int .i64 0, .int .i64 0, .int .i64 0, .string ⟨#[97, 98]⟩, .string ⟨#[]⟩, .string ⟨#[]⟩, .int .i64 4, .int .i64 0, .int .i64 0, .int .i64 0, .string ⟨#[97]⟩, .string ⟨#[]⟩, .string ⟨#[]⟩, .int .i64 2, .int .i64 0, .int .i64 0, .int .i64 0, .string ⟨#[99]⟩, .string ⟨#[]⟩, .string ⟨#[]⟩, .int .i64 3, .int .i64 0, .int .i64 0, .int .i64 0, .string ⟨#[97]⟩, .string ⟨#[]⟩, .string ⟨#[]⟩, .int .i64 6, .int .i64 0, .int .i64 0, .int .i64 0, .string ⟨#[]⟩, .string ⟨#[]⟩, .string ⟨#[]⟩, .int .i64 8, .int .i64 0, .int .i64 0, .int .i64 0, .string ⟨#[]⟩, .string ⟨#[97]⟩, .string ⟨#[]⟩, .int .i64 9, .int .i64 0, .int .i64 99, .int .i64 0, .string ⟨#[]⟩, .string ⟨#[]⟩, .string ⟨#[]⟩] 56)).grown hgA0 (fun k hk => .inl (by simpa [Value.ownBlock] using hk.symm))
  have hBw := hkC.get (heap_alloc_new w (.cells #[.slice none 0 0, .slice none 0 0, .slice none 0 0] 54 (0, 0))) (by omega)
  have hk0 : Kept nothing w wA := by
    have h := ((((Kept.refl nothing w).alloc (.cells #[.slice none 0 0, .slice none 0 0, .slice none 0 0] 54)).alloc (.cells #[.int .i64 1, .int .i64 0, .int .i64 2, .int .i64 2, .string ⟨#[]⟩, .string ⟨#[]⟩, .string ⟨#[]⟩, .int .i64 2, .int .i64 0, .int .i64 0, .int .i64 0, .string ⟨#[97, 98]⟩, .string ⟨#[]⟩, .string ⟨#[]⟩, .int .i64 4, .int .i64 0, .int .i64 0, .int .i64 0, .string ⟨#[97]⟩, .string ⟨#[]⟩, .string ⟨#[]⟩, .int .i64 2, .int .i64 0, .int .i64 0, .int .i64 0, .string ⟨#[99]⟩, .string ⟨#[]⟩, .string ⟨#[]⟩, .int .i64 3, .int .i64 0, .int .i64 0, .int .i64 0, .string ⟨#[97]⟩, .string ⟨#[]⟩, .string ⟨#[]⟩, .int .i64 6, .int .i64 0, .int .i64 0, .int .i64 0, .string ⟨#[]⟩, .string ⟨#[]⟩, .string ⟨#[]⟩, .int .i64 8, .int .i64 0, .int .i64 0, .int .i64 0, .string ⟨#[]⟩, .string ⟨#[97]⟩, .string ⟨#[]⟩, .int .i64 9, .int .i64 0, .int .i64 99, .int .i64 0, .string ⟨#[]⟩, .string ⟨#[]⟩, .string ⟨#[]⟩] 56))).grown hgA0 (fun k hk => .inr (by simp at hk; omega))
    exact h
  clear hgA0 hoA hNe hkC Hlen Hc
  have HBw : Hid (wA.heap[w.heap.size]? = some (.cells #[.slice none 0 0, .slice none 0 0, .slice none 0 0] 54 (0, 0))) := hBw
  have HAll : Hid (wA.ownsRow 0 56 7 (.slice (some ⟨gA, 0, none⟩) N cA) N (opcells (ahead ++ sops))) := hAll
  have HN : (ahead ++ sops).length = N := by have := hAll.1; rw [opcells_len] at this; omega
  have HW0 : Hid (Wis wA wA w.heap.size noSnd 0 (.slice none 0 0) (.slice none 0 0) [] []) :=
    ⟨Kept.refl _ _, HG.out.keptN hk0, h2, hBw, World.ownsRow_nil _ _ _ _, by simp, by simp, World.ownsRow_nil _ _ _ _, rfl, by simp, noSnd_ok _ _⟩
  obtain ⟨bw, hbwe⟩ : ∃ bw, bw = w.heap.size := ⟨_, rfl⟩
  rw [← hbwe] at HBw HW0 ⊢
  have hbl : w.heap.size ≤ bw := by omega
  have hgA : gA < wA.heap.size := by obtain ⟨cur, hc⟩ := owns_tag hAll (g := gA) rfl; exact blk_lt hc
  have hcA : N ≤ cA ∧ cA ≤ 9223372036854775807 := by obtain ⟨g', c', hv, _, _, h1, h2⟩ := owns_parts hAll (by omega); simp only [Value.slice.injEq, true_and] at hv; obtain ⟨_, rfl⟩ := hv; exact ⟨h1, h2⟩
  clear hAll hBw hbwe
  go_wp2
  go_loopw [7] (fun i wr => ∃ k : Nat, k ≤ N ∧ i = .int .i64 k ∧ ∃ S vl vnm ps ns, Wis wA wr bw S k vl vnm ps ns ∧ ps.length ≤ k ∧ ns.length ≤ 4 * k ∧ S.l.length ≤ k ∧ (0 < k → 0 < ps.length)) (fun i _ => N - (intOf i).toNat)
  case atStart => exact ⟨0, Nat.zero_le _, rfl, noSnd, _, _, [], [], HW0.out, Nat.le_refl _, Nat.le_refl _, Nat.le_refl _, fun h => absurd h (Nat.lt_irrefl 0)⟩
  case round =>
    obtain ⟨k, hk, rfl, S, vl, vnm, ps, ns, hW, hpl, hnl, hsl, hp0⟩ := hrel
    have HW : Hid (Wis wA wr bw S k vl vnm ps ns) := hW
    have Hp0 : Hid (0 < k → 0 < ps.length) := hp0
    clear hW hp0
    by_cases hkN : k < N
    · have hxk : (ahead ++ sops)[k]? = some (ahead ++ sops)[k] := by simp
      have hok := Hok.out (ahead ++ sops)[k] (by simp)
      have Hfirst : Hid (k = 0 → (ahead ++ sops)[k] = ⟨1, 0, 2, 2, ⟨#[]⟩, ⟨#[]⟩, ⟨#[]⟩⟩) := by rintro rfl; rfl
      have hrow : wr.ownsRow 0 56 7 (.slice (some ⟨gA, 0, none⟩) N cA) N (opcells (ahead ++ sops)) := owns_kept HAll.out HW.out.kept (fun g hg e => by
        obtain ⟨cur, hc⟩ := owns_tag HAll.out hg
        exact blk_ne hc HBw.out (by decide) e)
      have cell : ∀ j, j < 7 → ∀ u, (ahead ++ sops)[k].cells[j]? = some u → wr.cell? ⟨gA, k * 7 + j, none⟩ = some u := by
        intro j hj u hu
        exact owns_cell hrow (by rw [opcells_get _ _ _ _ hxk hj]; exact hu)
      generalize (ahead ++ sops)[k] = o at hok Hfirst cell
      have x0 : wr.cell? ⟨gA, k * 7, none⟩ = some (.int .i64 o.kind) := cell 0 (by omega) _ rfl
      have x1 : wr.cell? ⟨gA, k * 7 + 1, none⟩ = some (.int .i64 o.on) := cell 1 (by omega) _ rfl
      have x2 : wr.cell? ⟨gA, k * 7 + 2, none⟩ = some (.int .i64 o.a) := cell 2 (by omega) _ rfl
      have x3 : wr.cell? ⟨gA, k * 7 + 3, none⟩ = some (.int .i64 o.b) := cell 3 (by omega) _ rfl
      have x4 : wr.cell? ⟨gA, k * 7 + 4, none⟩ = some (.string o.s) := cell 4 (by omega) _ rfl
      have x5 : wr.cell? ⟨gA, k * 7 + 5, none⟩ = some (.string o.t) := cell 5 (by omega) _ rfl
      have x6 : wr.cell? ⟨gA, k * 7 + 6, none⟩ = some (.string o.u) := cell 6 (by omega) _ rfl
      have Ho : Hid o.Ok := hok
      clear hxk hrow cell hok
      by_cases h7 : o.kind ≤ last
      · have Hcall : Hid (Calls Tryz.prog 16 #[.pointer (some ⟨bw, 0, none⟩), .agg #[.int .i64 o.kind, .int .i64 o.on, .int .i64 o.a, .int .i64 o.b, .string o.s, .string o.t, .string o.u]] wr fun e w' => e = .returned (.bool true) ∧ StepPost wA bw k S ps ns o w') :=
          step_any wA wr bw k vl vnm ps ns HW.out (by omega) (by omega) (by omega) (by omega) o Ho.out (by omega)
        go_wp2_with fail
        refine Hcall.out.mono ?_
        rintro e w1 ⟨rfl, S', vl', vnm', ps', ns', hW1, hp1, hp2, hn1, hs1, hf1⟩
        have hpos : 0 < ps'.length := by
          rcases Nat.eq_zero_or_pos k with h0 | h0
          · have hoe := Hfirst.out h0
            exact hf1 (by rw [hoe]) (by rw [hoe]; decide)
          · have := Hp0.out h0; omega
        obtain ⟨la, lcap, hvl, _, _, _⟩ := owns_open (owns_weaken hW1.pairs)
        subst hvl
        have y0 : w1.cell? ⟨bw, 0, none⟩ = some (.slice la ps'.length lcap) := blk_cell hW1.world 0 rfl
        have hz : ((ps'.length : Int) == 0) = false := by rw [beq_eq_false_iff_ne]; omega
        have HW1 : Hid (Wis wA w1 bw S' (k + 1) (.slice la ps'.length lcap) vnm' ps' ns') := hW1
        clear hW1 hf1 x0 x1 x2 x3 x4 x5 x6
        go_wp2_with (go_at_call 17; refine (looks_any wA w1 bw (k + 1) _ vnm' ps' ns' HW1.out (by omega)).mono ?_; rintro e w2 ⟨rfl, hk2⟩)
        go_roundw
        case rel => exact ⟨k + 1, by omega, by go_num, _, _, _, ps', ns', HW1.out.keptN hk2, by omega, by omega, by omega, fun _ => hpos⟩
        case measure => simp [intOf]; omega
      · have hk0 : 0 < k := by
          rcases Nat.eq_zero_or_pos k with h0 | h0
          · have hoe := Hfirst.out h0
            rw [hoe] at h7
            exact absurd hlast1 h7
          · exact h0
        go_wp2
        go_roundw
        case rel => exact ⟨k + 1, by omega, by go_num, S, vl, vnm, ps, ns, HW.out.mono (by omega), by omega, by omega, by omega, fun _ => Hp0.out hk0⟩
        case measure => simp [intOf]; omega
    · have HE : Hid (Kept nothing w wr) := by
        refine ⟨HW.out.kept.os.trans hk0.os, HW.out.kept.tape.trans hk0.tape, HW.out.kept.output.trans hk0.output, Nat.le_trans hk0.size HW.out.kept.size, fun j hj hs => ?_⟩
        rw [HW.out.kept.block j (Nat.lt_of_lt_of_le hj hk0.size) (by intro e; omega)]
        exact hk0.block j hj hs
      go_wp2
      go_ret
      exact ⟨rfl, HE.out⟩
end Go.Proofs.YtdnjfjdhkmngjaaGreatDoor
