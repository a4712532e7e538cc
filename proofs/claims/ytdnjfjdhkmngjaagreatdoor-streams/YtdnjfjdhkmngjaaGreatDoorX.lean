import Derived.Test.YtdnjfjdhkmngjaaGreatDoorV
import Derived.Deep.DeepAppendWide
namespace Go.Proofs.YtdnjfjdhkmngjaaGreatDoor
open Go.RowKit

theorem und_strss : Tryz.prog.underlying 52 = some (.slice 32) := by kernel_rfl
theorem info_strs : (Tryz.prog.info? 32).map (fun i => (i.zero, i.size, i.bytes)) = some (some (.slice none 0 0), 1, 24) := by kernel_rfl

/-- append, its bound on bytes widened to growslice's own test. -/
theorem wp_append_w (t e : TypeId) (z : Value) (size bytes : Nat) (ht : Tryz.prog.underlying t = some (.slice e)) (hinfo : (Tryz.prog.info? e).map (fun i => (i.zero, i.size, i.bytes)) = some (some z, size, bytes)) (hzs : z.cells.size = size) (hsz : 0 < size) (hby : 0 < bytes)
    (w : World) {ops : Array Oper} {rest : List Oper} {o : Oper} {a : Act} {Q : Exit → Act → World → Prop} (hgd : o.guard = none) (s x : Operand)
    (ho : o.op = .call { callee := .builtin .append, args := #[s, x], argTypes := #[t, t] })
    (base : Nat) (v : Value) (n : Nat) (xs : List Value) (hs : a.eval s = v) (hown : w.ownsRow base e size v n xs)
    (ad : Addr) (m c : Nat) (news : List Value) (hx : a.eval x = .slice (some ad) m c) (hl : news.length = m * size) (hnews : ∀ j u, news[j]? = some u → w.cell? (ad.add j) = some u) (h1 : ∀ u ∈ news, u.oneCell' = true)
    (hbytes : ((n + m) + (n + m) / 4 + 192) * bytes ≤ 281474976710656) (hbase : base ≤ w.heap.size)
    (h : ∀ v' w', w'.ownsRow base e size v' (n + m) (xs ++ news) → w.grownBy w' v.ownBlock → wpList Tryz.prog ops Q rest (a.put o.dst v') w') : wpList Tryz.prog ops Q (o :: rest) a w := by
  obtain ⟨ib, hib, hz, hsize, hbyt⟩ := info_parts hinfo
  have h63 : n + m ≤ maxLen := by
    have := Nat.le_mul_of_pos_right ((n + m) + (n + m) / 4 + 192) hby
    simp only [maxLen]; omega
  exact wpList_append_own_wide (P := Tryz.prog) w hgd s x t ho base e ib z size bytes ht hib hz hsize hbyt hzs hsz v n xs hs hown ad m c news hx hl hnews h1 h63 hbytes hbase (fun v' w' h2 h3 _ => h v' w' h2 h3)

/-- The lists that came out, four more. -/
theorem Wis.named {W0 wb w' : World} {bw L : Nat} {vl vnm vnm' : Value} {ps : List PS} {ns : List Value} {S : Snd} (h : Wis W0 wb bw S L vl vnm ps ns) (hk : Kept (fun k => k = bw ∨ vnm.ownBlock = some k) wb w')
    (hw : w'.heap[bw]? = some (.cells #[vl, S.v, vnm'] 54 (0, 0))) (l4 : List Value) (h4 : l4.length = 4) (hn : w'.ownsRow W0.heap.size 32 1 vnm' (ns.length + 4) (ns ++ l4)) (hx : ∀ v ∈ l4, ∃ n, AllX w' v n (lettersF (ns.length / 4))) :
    Wis W0 w' bw S L vl vnm' ps (ns ++ l4) := by
  have htag : ∀ {t' : TypeId}, t' ≠ 54 → t' ≠ 32 → ∀ g cur, wb.heap[g]? = some (.cells cur t' (0, 0)) → ¬ (g = bw ∨ vnm.ownBlock = some g) := by
    rintro t' h1 h2 g cur hg (rfl | hv)
    · exact blk_ne hg h.world h1 rfl
    · obtain ⟨cur', hc⟩ := owns_tag (owns_weaken h.names) hv
      exact blk_ne hg hc h2 rfl
  refine ⟨h.kept.trans' hk (fun k hk1 hk2 => ?_), h.glob, h.hbw, hw, ?_, ?_, h.apart, by rw [List.length_append, h4]; exact hn, by rw [List.length_append, h4]; have := h.four; omega, ?_, h.snd.kept hk (htag (by decide) (by decide)) (htag (by decide) (by decide))⟩
  · rcases hk2 with rfl | hv
    · have := h.hbw; omega
    · have := owns_above h.names hv; omega
  · exact owns_keptB h.pairs hk (fun g hg => by obtain ⟨cur, hc⟩ := owns_tag (owns_weaken h.pairs) hg; exact htag (by decide) (by decide) g cur hc)
  · intro p hp
    have hok := h.ok p hp
    exact ⟨hok.prog.kept hk (htag (by decide) (by decide) _ _ hok.prog.vol) (fun g hg => by obtain ⟨cur, hc⟩ := owns_tag hok.prog.snaps hg; exact htag (by decide) (by decide) g cur hc) (htag (by decide) (by decide)) (htag (by decide) (by decide)),
      hok.ref.kept hk (htag (by decide) (by decide) _ _ hok.ref.vol) (fun g hg => by obtain ⟨cur, hc⟩ := owns_tag hok.ref.snaps hg; exact htag (by decide) (by decide) g cur hc) (htag (by decide) (by decide)), hok.good, hok.last, hok.lo1, hok.lo2, hok.lo3, hok.lo4⟩
  · intro k v hv
    by_cases hkn : k < ns.length
    · rw [List.getElem?_append_left hkn] at hv
      obtain ⟨n, hn⟩ := h.marks k v hv
      exact ⟨n, owns_kept hn hk (fun g hg => by obtain ⟨cur, hc⟩ := owns_tag hn hg; exact htag (by decide) (by decide) g cur hc)⟩
    · rw [List.getElem?_append_right (by omega)] at hv
      have hk4 : k - ns.length < 4 := by rw [← h4]; exact (List.getElem?_eq_some_iff.1 hv).1
      have : k / 4 = ns.length / 4 := by have := h.four; omega
      rw [this]
      exact hx v (List.mem_of_getElem? hv)

theorem new_reps (w : World) (x : Value) (t : TypeId) (m : Nat) (c : Array Value) (hc : c.toList = List.replicate m x) : ∀ j u, (List.replicate m x)[j]? = some u → (w.alloc (.cells c t)).cell? ((⟨w.heap.size, 0, none⟩ : Addr).add j) = some u := by
  intro j u hu
  have hadd : (⟨w.heap.size, 0, none⟩ : Addr).add j = ⟨w.heap.size, j, none⟩ := by unfold Addr.add; split <;> simp_all
  rw [hadd]
  refine blk_cell (heap_alloc_new w _) j ?_
  rw [← hc] at hu
  simpa using hu
theorem new_four (w : World) (a b c d : Value) (t : TypeId) : ∀ j u, [a, b, c, d][j]? = some u → (w.alloc (.cells #[a, b, c, d] t)).cell? ((⟨w.heap.size, 0, none⟩ : Addr).add j) = some u := by
  intro j u hu
  have hadd : (⟨w.heap.size, 0, none⟩ : Addr).add j = ⟨w.heap.size, j, none⟩ := by unfold Addr.add; split <;> simp_all
  rw [hadd]
  refine blk_cell (heap_alloc_new w _) j ?_
  simpa using hu
theorem one_four (a b c d : Option Addr) (n1 n2 n3 n4 c1 c2 c3 c4 : Nat) : ∀ u ∈ [Value.slice a n1 c1, .slice b n2 c2, .slice c n3 c3, .slice d n4 c4], u.oneCell' = true := by
  intro u hu; simp at hu; rcases hu with rfl | rfl | rfl | rfl <;> rfl

set_option maxRecDepth 100000 in
set_option maxHeartbeats 2000000 in
theorem named_any (W0 wb w : World) (bw L : Nat) (vl vnm : Value) (ps : List PS) (ns : List Value) {S : Snd} (hW : Wis W0 wb bw S L vl vnm ps ns) (hkb : Kept nothing wb w) (hN : ns.length ≤ 7036874417600)
    (l : Value) (n : Nat) (xs : List Value) (hl : w.ownsRow wb.heap.size 9 1 l n xs) (hn : n ≤ 6) (hstr : ∀ u ∈ xs, ∃ s, u = .string s) :
    Calls Tryz.prog 68 #[.pointer (some ⟨bw, 0, none⟩), l] w fun e w' => e = .returned (.tuple #[]) ∧ ∃ vnm' ns', Wis W0 w' bw S L vl vnm' ps ns' ∧ ns'.length = ns.length + 4 := by
  have HW : Hid (Wis W0 wb bw S L vl vnm ps ns) := hW
  have hsz0 := hkb.size
  have hworld := hkb.get hW.world (fun h => h)
  have hc2 : w.cell? ⟨bw, 2, none⟩ = some vnm := blk_cell hworld 2 rfl
  have hltb := blk_lt hW.world
  have hlt : bw < w.heap.size := by omega
  obtain ⟨na, ncap, hvn, hnn, hnm, _⟩ := owns_open (owns_weaken hW.names)
  subst hvn
  obtain ⟨la, lcap, hvl, hln, hlm, _⟩ := owns_open (owns_weaken hl)
  subst hvl
  unfold maxLen at hnm hlm
  have Hl : Hid (w.ownsRow wb.heap.size 9 1 (.slice la n lcap) n xs) := hl
  have Hstr : Hid (∀ u ∈ xs, ∃ s, u = .string s) := hstr
  clear hW hl hworld hstr
  go_enter Tryz.func68, Tryz.ntmps68
  go_wp2_with fail
  rw [show ((ns.length : Int) / 4) = ((ns.length / 4 : Nat) : Int) from by omega]
  refine (letters_any (ns.length / 4) _ (by omega)).mono ?_
  rintro e w1 ⟨rfl, hk1⟩
  have hkb1 := hkb.trans hk1
  have Hl1 : Hid (w1.ownsRow wb.heap.size 9 1 (.slice la n lcap) n xs) := owns_keptB Hl.out hk1 (fun _ _ h => h)
  generalize hX : lettersF (ns.length / 4) = x
  have HX : Hid (lettersF (ns.length / 4) = x) := hX
  clear hX
  go_wp2
  go_loopw [5] (fun i wr => ∃ k : Nat, k ≤ n ∧ i = .int .i64 k ∧ wr.ownsRow wb.heap.size 9 1 (.slice la n lcap) n (List.replicate k (.string x) ++ xs.drop k) ∧ Kept nothing wb wr) (fun i _ => n - (intOf i).toNat)
  case atStart => exact ⟨0, Nat.zero_le _, rfl, by simpa using Hl1.out, hkb1⟩
  case round =>
    clear Hl1 hkb1 hk1
    obtain ⟨k, hk, rfl, how, hkp⟩ := hrel
    by_cases hkn : k < n
    · obtain ⟨g, lcap', hla, hg, hgl, _, _⟩ := owns_parts how (by omega)
      simp only [Value.slice.injEq, true_and] at hla
      obtain ⟨rfl, rfl⟩ := hla
      have hxl : xs.length = n := by have := Hl.out.1; omega
      have hgt : (List.replicate k (Value.string x) ++ xs.drop k)[k]? = some xs[k] := by
        rw [List.getElem?_append_right (by simp)]; simp [hxl, hkn]
      have hck := owns_cell (owns_weaken how) hgt
      obtain ⟨s0, hs0⟩ := Hstr.out xs[k] (by simp)
      rw [hs0] at hck
      have hfk := owns_frozen (owns_weaken how) k
      have How : Hid (wr.ownsRow wb.heap.size 9 1 (.slice (some ⟨g, 0, none⟩) n lcap) n (List.replicate k (.string x) ++ xs.drop k)) := how
      have Hset : Hid ((List.replicate k (Value.string x) ++ xs.drop k).set k (.string x) = List.replicate (k + 1) (.string x) ++ xs.drop (k + 1)) := by
        show _ = _
        rw [List.set_append_right _ _ (by simp)]
        simp only [List.length_replicate, Nat.sub_self]
        rw [List.drop_eq_getElem_cons (by omega : k < xs.length), List.set_cons_zero, List.replicate_succ', List.append_assoc]
        rfl
      clear how hgt hs0
      go_wp2
      go_roundw
      case rel =>
        refine ⟨k + 1, by omega, by go_num, ?_, hkp.setCell (p := ⟨g, k, none⟩) (.inr hg) _⟩
        rw [← Hset.out]
        exact owns_lift (owns_set (owns_weaken How.out) k _) (fun g' hg' => owns_above How.out hg')
      case measure => simp [intOf]; omega
    · have hke : k = n := by omega
      have hxl : xs.length = n := by have := Hl.out.1; omega
      have How : Hid (wr.ownsRow wb.heap.size 9 1 (.slice la n lcap) n (List.replicate n (.string x))) := by
        rw [hke, List.drop_of_length_le (by omega), List.append_nil] at how; exact how
      have hszr := hkp.size
      clear how hke hxl
      go_wp2_with (at_builtin; refine wp_append_x x _ rfl _ _ rfl wb.heap.size (.slice la n lcap) n rfl (How.out.alloc _) ⟨wr.heap.size, 0, none⟩ 1 1 rfl (new_reps _ _ _ 1 _ rfl) ?_ ?_ ?_)
      · omega
      · simp; omega
      intro va wa hoa hga hxa
      have hka : Kept nothing wb wa := (hkp.alloc _).grown hga (fun k hk => .inr (owns_above How.out hk))
      have Hla : Hid (wa.ownsRow wb.heap.size 9 1 (.slice la n lcap) n (List.replicate n (.string x))) := owns_lift (hxa _ _ (owns_weaken (How.out.alloc _))) (fun g hg => owns_above How.out hg)
      have Hva : Hid (AllX wa va (n + 1) x) := owns_weaken hoa
      obtain ⟨aa, ca, hva, _, _, _⟩ := owns_open (owns_weaken hoa)
      subst hva
      have hsza := hka.size
      clear hoa hga hxa How
      go_wp2_with (at_builtin; refine wp_append_x x _ rfl _ _ rfl wb.heap.size (.slice la n lcap) n rfl (Hla.out.alloc _) ⟨wa.heap.size, 0, none⟩ 2 2 rfl (new_reps _ _ _ 2 _ rfl) ?_ ?_ ?_)
      · omega
      · simp; omega
      intro vb wb2 hob hgb hxb
      have hkb2 : Kept nothing wb wb2 := (hka.alloc _).grown hgb (fun k hk => .inr (owns_above Hla.out hk))
      have Hlb : Hid (wb2.ownsRow wb.heap.size 9 1 (.slice la n lcap) n (List.replicate n (.string x))) := owns_lift (hxb _ _ (owns_weaken (Hla.out.alloc _))) (fun g hg => owns_above Hla.out hg)
      have Hva2 : Hid (AllX wb2 (.slice aa (n + 1) ca) (n + 1) x) := hxb _ _ (Hva.out.alloc _)
      have Hvb : Hid (AllX wb2 vb (n + 2) x) := owns_weaken hob
      obtain ⟨ab, cb, hvb, _, _, _⟩ := owns_open (owns_weaken hob)
      subst hvb
      have hszb := hkb2.size
      clear hob hgb hxb Hla Hva
      go_wp2_with (at_builtin; refine wp_append_x x _ rfl _ _ rfl wb.heap.size (.slice la n lcap) n rfl (Hlb.out.alloc _) ⟨wb2.heap.size, 0, none⟩ 3 3 rfl (new_reps _ _ _ 3 _ rfl) ?_ ?_ ?_)
      · omega
      · simp; omega
      intro vc wc hoc hgc hxc
      have hkc : Kept nothing wb wc := (hkb2.alloc _).grown hgc (fun k hk => .inr (owns_above Hlb.out hk))
      have Hlc : Hid (AllX wc (.slice la n lcap) n x) := hxc _ _ (owns_weaken (Hlb.out.alloc _))
      have Hva3 : Hid (AllX wc (.slice aa (n + 1) ca) (n + 1) x) := hxc _ _ (Hva2.out.alloc _)
      have Hvb3 : Hid (AllX wc (.slice ab (n + 2) cb) (n + 2) x) := hxc _ _ (Hvb.out.alloc _)
      have Hvc : Hid (AllX wc vc (n + 3) x) := owns_weaken hoc
      obtain ⟨ac, cc, hvc, _, _, _⟩ := owns_open (owns_weaken hoc)
      subst hvc
      have hszc := hkc.size
      have hworld := hkc.get HW.out.world (fun h => h)
      have hc2c : wc.cell? ⟨bw, 2, none⟩ = some (.slice na ns.length ncap) := blk_cell hworld 2 rfl
      have hltc : bw < wc.heap.size := by omega
      have hW0 := HW.out.kept.size
      clear hoc hgc hxc Hlb Hva2 Hvb hworld
      go_wp2_with (at_builtin; refine wp_append_w _ _ _ 1 24 und_strss info_strs rfl (by decide) (by decide) _ rfl _ _ rfl W0.heap.size (.slice na ns.length ncap) ns.length ns rfl ((owns_keptB HW.out.names hkc (fun _ _ h => h)).alloc _) ⟨wc.heap.size, 0, none⟩ 4 4 [.slice la n lcap, .slice aa (n + 1) ca, .slice ab (n + 2) cb, .slice ac (n + 3) cc] rfl rfl (new_four _ _ _ _ _ _) (one_four _ _ _ _ _ _ _ _ _ _ _ _) ?_ ?_ ?_)
      · omega
      · simp; omega
      intro vd wd hod hgd
      have hkd : Kept (fun k => k = bw ∨ (Value.slice na ns.length ncap).ownBlock = some k) wb wd := ((hkc.mono (fun _ _ h => h.elim)).alloc _).grown hgd (fun k hk => .inl (.inr hk))
      have hkdc : Kept (fun k => (Value.slice na ns.length ncap).ownBlock = some k) wc wd := ((Kept.refl _ wc).alloc _).grown hgd (fun k hk => .inl hk)
      have hnt : ∀ {t' : TypeId}, t' ≠ 32 → ∀ g cur, wc.heap[g]? = some (.cells cur t' (0, 0)) → ¬ (Value.slice na ns.length ncap).ownBlock = some g := by
        intro t' h1 g cur hg hv
        obtain ⟨cur', hc⟩ := owns_tag (owns_weaken (owns_keptB HW.out.names hkc (fun _ _ h => h))) hv
        exact blk_ne hg hc h1 rfl
      have hworldd := hkdc.get (hkc.get HW.out.world (fun h => h)) (hnt (by decide) _ _ (hkc.get HW.out.world (fun h => h)))
      have hcd : wd.cell? ⟨bw, 2, none⟩ = some (.slice na ns.length ncap) := blk_cell hworldd 2 rfl
      have hfd := blk_frozen hworldd 2
      obtain ⟨gd, cd, hvd, _, _, _, _⟩ := owns_parts hod (by omega)
      subst hvd
      have hke := hkd.setCell (p := ⟨bw, 2, none⟩) (.inl (.inl rfl)) (.slice (some ⟨gd, 0, none⟩) (ns.length + 4) cd)
      have hset1 := (Kept.refl (fun k => k = bw) wd).set_at 2 (.slice (some ⟨gd, 0, none⟩) (ns.length + 4) cd)
      have hxall : ∀ v n', AllX wc v n' x → AllX (wd.setCell ⟨bw, 2, none⟩ (.slice (some ⟨gd, 0, none⟩) (ns.length + 4) cd)) v n' x := by
        intro v n' hv
        have h1 := owns_kept hv hkdc (fun g hg => by obtain ⟨cur, hc⟩ := owns_tag hv hg; exact hnt (by decide) g cur hc)
        exact owns_kept h1 hset1 (fun g hg e => by obtain ⟨cur, hc⟩ := owns_tag h1 hg; exact blk_ne hc hworldd (by decide) e)
      have HF : Hid (Wis W0 (wd.setCell ⟨bw, 2, none⟩ (.slice (some ⟨gd, 0, none⟩) (ns.length + 4) cd)) bw S L vl (.slice (some ⟨gd, 0, none⟩) (ns.length + 4) cd) ps (ns ++ [.slice la n lcap, .slice aa (n + 1) ca, .slice ab (n + 2) cb, .slice ac (n + 3) cc])) := by
        refine HW.out.named hke ?_ _ rfl ?_ ?_
        · have := blk_set hworldd 2 (.slice (some ⟨gd, 0, none⟩) (ns.length + 4) cd)
          simpa using this
        · exact owns_keptB hod hset1 (fun g hg e => by obtain ⟨cur, hc⟩ := owns_tag (owns_weaken hod) hg; exact blk_ne hc hworldd (by decide) e)
        · intro v hv
          rw [HX.out]
          simp at hv
          rcases hv with rfl | rfl | rfl | rfl
          · exact ⟨_, hxall _ _ Hlc.out⟩
          · exact ⟨_, hxall _ _ Hva3.out⟩
          · exact ⟨_, hxall _ _ Hvb3.out⟩
          · exact ⟨_, hxall _ _ Hvc.out⟩
      clear hod hgd hkd hkdc hnt hworldd hke hset1 hxall
      go_wp2
      go_end0
      exact ⟨rfl, _, _, HF.out, by simp⟩
end Go.Proofs.YtdnjfjdhkmngjaaGreatDoor
