import Derived.Test.YtdnjfjdhkmngjaaGreatDoorN0
import Derived.Test.YtdnjfjdhkmngjaaGreatDoorE
namespace Go.Proofs.YtdnjfjdhkmngjaaGreatDoor
open Go.RowKit

/-- append within the capacity, onto a row of its own, as one step of a region. -/
theorem step_append_in (t e : TypeId) (z : Value) (size bytes : Nat) (ht : Tryz.prog.underlying t = some (.slice e)) (hinfo : (Tryz.prog.info? e).map (fun i => (i.zero, i.size, i.bytes)) = some (some z, size, bytes)) (hzs : z.cells.size = size) (hsz : 0 < size) (hby : 0 < bytes)
    (w : World) {ops : Array Oper} {tm : Array Value} {o : Oper} {a : Act} {K : Act → World → Prop} {Q : Exit → Act → World → Prop} {E : Prop} (hgd : o.guard = none) (s x : Operand)
    (ho : o.op = .call { callee := .builtin .append, args := #[s, x], argTypes := #[t, t] })
    (g n cap : Nat) (xs : List Value) (hs : a.eval s = .slice (some ⟨g, 0, none⟩) n cap) (hown : w.ownsRow 0 e size (.slice (some ⟨g, 0, none⟩) n cap) n xs)
    (ad : Addr) (m c : Nat) (news : List Value) (hx : a.eval x = .slice (some ad) m c) (hl : news.length = m * size) (hnews : ∀ j u, news[j]? = some u → w.cell? (ad.add j) = some u) (h1 : ∀ u ∈ news, u.oneCell' = true)
    (hbytes : (n + m) * bytes ≤ 140737488355328) (hroom : n + m ≤ cap)
    (h : ∀ w', w'.ownsRow 0 e size (.slice (some ⟨g, 0, none⟩) (n + m) cap) (n + m) (xs ++ news) → w.grownBy w' (some g) → K (a.put o.dst (.slice (some ⟨g, 0, none⟩) (n + m) cap)) w') :
    if Region.wanted o (yielded ops tm) = true then Oper.wp Tryz.prog o a w K Q else E := by
  have hw : Region.wanted o (yielded ops tm) = true := by simp [Region.wanted, hgd]
  rw [if_pos hw]
  obtain ⟨ib, hib, hz, hsize, hbyt⟩ := info_parts hinfo
  subst hsize
  subst hbyt
  have h63 : n + m ≤ maxLen := by
    have := Nat.le_mul_of_pos_right (n + m) hby
    simp only [maxLen]; omega
  obtain ⟨v', w', hr, h2, h3, h4⟩ := run_append_tell (P := Tryz.prog) w 0 t o.type e ib z ht hib hz hzs hsz _ n xs hown ad m c news hl hnews h1 h63 hbytes (Nat.zero_le _)
  have hv : v' = .slice (some ⟨g, 0, none⟩) (n + m) cap := by
    rcases hown.2 with ⟨h, _⟩ | ⟨g', cap', cur, hv, _, hg, _, _, hcs, _⟩
    · cases h
    · simp only [Value.slice.injEq, Option.some.injEq, Addr.mk.injEq, and_true, true_and] at hv
      obtain ⟨rfl, rfl⟩ := hv
      have hfit : n * ib.size + news.length ≤ cur.size := by rw [hl, hcs, ← Nat.add_mul]; exact Nat.mul_le_mul_right _ hroom
      have hr' := run_append_room (P := Tryz.prog) w t o.type e ib ht hib g n cap cur hg ad m c news hl hnews h1 hroom hfit
      rw [hr'] at hr
      cases hr
      rfl
  subst hv
  unfold Oper.wp execOp
  simp only [ho, resolve, invoke, builtin, Sem.run_bind, Sem.run_pure, Result.andThen_ok, List.map_toArray, List.map_cons, List.map_nil, hs, hx, hr]
  exact h w' h2 h3

/-- clear, of the one element behind a slice's end. -/
theorem run_clear_last {w : World} {g n cap : Nat} {xs : List Value} (hown : w.ownsRow 0 84 2 (.slice (some ⟨g, 0, none⟩) n cap) n xs) (hcap : n + 1 ≤ cap) (c : Nat) :
    ∃ w', (∀ ty, (Builtin.clear_ #[71] ty #[.slice (some ⟨g, n * 2, none⟩) 1 c]).run Tryz.prog w = .ok (.tuple #[]) w') ∧ w'.ownsRow 0 84 2 (.slice (some ⟨g, 0, none⟩) n cap) n xs ∧ w.grownBy w' (some g) := by
  obtain ⟨ib, hib, hz, hsize, hbyt⟩ := info_parts info_psnap
  rcases hown.2 with ⟨h, _⟩ | ⟨g', cap', cur, hv, _, hg, hn, hm, hcs, htk⟩
  · cases h
  · simp only [Value.slice.injEq, Option.some.injEq, Addr.mk.injEq, and_true, true_and] at hv
    obtain ⟨rfl, rfl⟩ := hv
    have hzc : (Builtin.zeroCells (Value.cells (.agg #[.string ⟨#[]⟩, .slice none 0 0])) 1).toList = [.string ⟨#[]⟩, .slice none 0 0] := by kernel_rfl
    have hst := run_storeCells_at (P := Tryz.prog) g (n * 2) 84 [.string ⟨#[]⟩, .slice none 0 0] 0 cur w hg (by simp; omega) (by intro v hv; simp at hv; rcases hv with rfl | rfl <;> rfl)
    refine ⟨w.setRow g (cur.toList.take (n * 2 + 0) ++ [Value.string ⟨#[]⟩, Value.slice none 0 0] ++ cur.toList.drop (n * 2 + 0 + 2)).toArray, fun ty => ?_, ?_, ?_⟩
    · simp only [Builtin.clear_]
      simp [run_underlying und_psnaps, zeroValue, typeInfo, hib, hz, hzc, hst]
    · refine ⟨hown.1, .inr ⟨g, cap, _, rfl, Nat.zero_le _, setRow_heap w g cur _ 84 (0, 0) hg, hn, hm, ?_, ?_⟩⟩
      · simp; omega
      · rw [← htk]
        simp only [Nat.add_zero]
        rw [List.toList_toArray, List.append_assoc, List.take_append_of_le_length (by simp; omega), List.take_take]
        simp
    · exact ⟨rfl, rfl, rfl, by simp, fun k _ hk => setRow_other w g k _ (fun e => hk (by simp [e]))⟩

theorem psnap_one {sv : List SV} (hsl : ∀ t ∈ sv, ∃ a n c, t.2.1 = .slice a n c) : ∀ u ∈ scells sv, u.oneCell' = true := by
  intro u hu
  simp only [scells, List.mem_flatMap] at hu
  obtain ⟨b, hb, hu⟩ := hu
  simp at hu
  rcases hu with rfl | rfl
  · rfl
  · obtain ⟨a, n, c, h⟩ := hsl b hb
    rw [h]; rfl
theorem owns_take {w : World} {g n cap q : Nat} {sv : List SV} (h : w.ownsRow 0 84 2 (.slice (some ⟨g, 0, none⟩) n cap) n (scells sv)) (hq : q ≤ n) : w.ownsRow 0 84 2 (.slice (some ⟨g, 0, none⟩) q cap) q (scells (sv.take q)) := by
  refine ⟨by rw [scells_take, List.length_take, h.1]; omega, ?_⟩
  rcases h.2 with ⟨h, _⟩ | ⟨g', cap', cur, hv, hb, hg, hn, hm, hcs, htk⟩
  · cases h
  · simp only [Value.slice.injEq, Option.some.injEq, Addr.mk.injEq, and_true, true_and] at hv
    obtain ⟨rfl, rfl⟩ := hv
    refine .inr ⟨g, cap, cur, rfl, hb, hg, by omega, hm, hcs, ?_⟩
    rw [scells_take, ← htk, List.take_take, Nat.min_eq_left (by omega)]

theorem drop_len {sv : List SV} {p q : Nat} (hp : sv.length = p + 1) : (scells (sv.drop (q + 1))).length = (p - q) * 2 := by rw [scells_len, List.length_drop, hp]; omega
theorem six_bytes' {p q : Nat} (h : p + 1 ≤ 6) (hq : q < p + 1) : (q + (p - q)) * 40 ≤ 140737488355328 := by omega
theorem room_in {p q scap : Nat} (h : p + 1 ≤ scap) (hq : q < p + 1) : q + (p - q) ≤ scap := by omega

set_option maxRecDepth 100000 in
set_option maxHeartbeats 2000000 in
theorem slDelete_p (w : World) (gs scap p : Nat) (sv : List SV) (q : Nat) (hp : sv.length = p + 1) (hv : w.ownsRow 0 84 2 (.slice (some ⟨gs, 0, none⟩) (p + 1) scap) (p + 1) (scells sv)) (hsl : ∀ t ∈ sv, ∃ a n c, t.2.1 = .slice a n c) (hq : q < p + 1) (h6 : p + 1 ≤ 6) :
    Calls Tryz.prog 49 #[.slice (some ⟨gs, 0, none⟩) (p + 1) scap, .int .i64 q, .int .i64 ((q : Int) + 1)] w fun e w' => e = .returned (.slice (some ⟨gs, 0, none⟩) p scap) ∧ w'.ownsRow 0 84 2 (.slice (some ⟨gs, 0, none⟩) p scap) p (scells (sv.take q ++ sv.drop (q + 1))) ∧ Kept (fun k => k = gs) w w' := by
  obtain ⟨g', cap', hv', _, hgs, hsn, hsm⟩ := owns_parts hv (by omega)
  simp only [Value.slice.injEq, Option.some.injEq, Addr.mk.injEq, and_true, true_and] at hv'
  obtain ⟨rfl, rfl⟩ := hv'
  have Hv : Hid (w.ownsRow 0 84 2 (.slice (some ⟨gs, 0, none⟩) (p + 1) scap) (p + 1) (scells sv)) := hv
  have Hone : Hid (∀ u ∈ scells (sv.drop (q + 1)), u.oneCell' = true) := psnap_one (fun t ht => hsl t (List.mem_of_mem_drop ht))
  have Hp : Hid (sv.length = p + 1) := hp
  have He : Hid (q + (p - q) = p) := by show _ = _; omega
  have HK : Hid (∀ w1 w2 : World, w.drew.grownBy w1 (some gs) → w1.grownBy w2 (some gs) → Kept (fun k => k = gs) w w2) := by
    intro w1 w2 h1 h2
    have a1 : Kept (fun k => k = gs) w w1 := Kept.of_drew ((Kept.refl _ w.drew).grown h1 (fun k hk => .inl (by simpa using hk.symm)))
    exact a1.grown h2 (fun k hk => .inl (by simpa using hk.symm))
  clear hv hsl hp
  have hne : ((q : Int) == (q : Int) + 1) = false := by simp; omega
  by_cases hcap : scap = q + 1
  · have hqp : q = p := by omega
    subst hqp
    subst hcap
    have HN : Hid (∀ j u, (scells (sv.drop (q + 1)))[j]? = some u → w.drew.cell? ((⟨gs, 0, none⟩ : Addr).add j) = some u) := by
      intro j u hu
      have : (scells (sv.drop (q + 1))).length = 0 := by rw [drop_len Hp.out]; omega
      rw [List.eq_nil_of_length_eq_zero this] at hu
      simp at hu
    have Hl0 : Hid ((scells (sv.drop (q + 1))).length = 0 * 2) := by rw [drop_len Hp.out]; show _ = _; omega
    have Hb0 : Hid ((q + 0) * 40 ≤ 140737488355328) := by show _ ≤ _; omega
    have Hr0 : Hid (q + 0 ≤ q + 1) := by show _ ≤ _; omega
    have b1 : (q : Int) ≤ (q : Int) + 1 := by omega
    have b0 : 0 ≤ (q : Int) + 1 := by omega
    go_enter Tryz.func49, Tryz.ntmps49
    go_wp2
    go_region_law (refine step_append_in 71 84 (.agg #[.string ⟨#[]⟩, .slice none 0 0]) 2 40 und_psnaps info_psnap rfl (by decide) (by decide) _ rfl (.tmp 22) (.tmp 25) rfl gs q (q + 1) (scells (sv.take q)) ?hs (owns_take Hv.out (by omega)) ⟨gs, 0, none⟩ 0 0 (scells (sv.drop (q + 1))) ?hx Hl0.out HN.out Hone.out Hb0.out Hr0.out ?_; (case hs => simp [Act.eval, Act.put]); (case hx => simp [Act.eval, Act.put]); intro w1 ho1 hg1; rw [Nat.add_zero] at ho1 ⊢; rw [← scells_append] at ho1; obtain ⟨w2, hclr, ho2, hg2⟩ := run_clear_last ho1 (Nat.le_refl _) 1; have Ho2 : Hid _ := ho2; have HK2 := HK.out w1 w2 hg1 hg2; clear ho1 hg1 ho2 hg2)
    go_wp2
    go_ret
    exact ⟨rfl, Ho2.out, HK2⟩
  · have b1 : (q : Int) ≤ (scap : Int) := by omega
    have b2 : (q : Int) + 1 ≤ (p : Int) + 1 := by omega
    have b0 : 0 ≤ (q : Int) + 1 := by omega
    have HN : Hid (∀ j u, (scells (sv.drop (q + 1)))[j]? = some u → w.drew.cell? ((⟨gs, (q + 1) * 2, none⟩ : Addr).add j) = some u) := by
      intro j u hu
      rw [scells_drop, List.getElem?_drop] at hu
      have := owns_cell Hv.out hu
      have hadd : (⟨gs, (q + 1) * 2, none⟩ : Addr).add j = ⟨gs, (q + 1) * 2 + j, none⟩ := by unfold Addr.add; split <;> simp_all
      rw [hadd]; exact this
    go_enter Tryz.func49, Tryz.ntmps49
    go_wp2
    go_region_law (refine step_append_in 71 84 (.agg #[.string ⟨#[]⟩, .slice none 0 0]) 2 40 und_psnaps info_psnap rfl (by decide) (by decide) _ rfl (.tmp 22) (.tmp 25) rfl gs q scap (scells (sv.take q)) ?hs (owns_take Hv.out (by omega)) ⟨gs, (q + 1) * 2, none⟩ (p - q) (scap - (q + 1)) (scells (sv.drop (q + 1))) ?hx (drop_len Hp.out) HN.out Hone.out (six_bytes' h6 hq) (room_in hsn hq) ?_; (case hs => simp [Act.eval, Act.put]); (case hx => simp [Act.eval, Act.put]); intro w1 ho1 hg1; rw [He.out] at ho1 ⊢; rw [← scells_append] at ho1; obtain ⟨w2, hclr, ho2, hg2⟩ := run_clear_last ho1 hsn (scap - p); have Ho2 : Hid _ := ho2; have HK2 := HK.out w1 w2 hg1 hg2; clear ho1 hg1 ho2 hg2)
    go_wp2
    go_ret
    exact ⟨rfl, Ho2.out, HK2⟩

set_option maxHeartbeats 1000000 in
theorem pDrop_any (b : Nat) (name : ByteArray) (w : World) (ι : Nat → Nat) (R : Vol) (vn vs : Value) (sv : List SV) (hP : PRep w b ι R vn vs sv) (hG : Good R) (hs : name.size ≤ maxLen) :
    Calls Tryz.prog 22 #[.pointer (some ⟨b, 0, none⟩), .string name] w fun e w' => ∃ err, e = .returned err ∧ ErrRep w' err (dropF R name).2 ∧ (∃ vs' sv', PRep w' b ι (dropF R name).1 vn vs' sv' ∧ RowAt w vs vs') ∧ Kept (fun k => k = b ∨ vs.ownBlock = some k) w w' := by
  have HP : Hid (PRep w b ι R vn vs sv) := hP
  have hc2 := hP.c2
  have hlt := hP.lt
  have Hn : Hid (Calls Tryz.prog 29 #[.string name] w fun e w' => e = .returned (.bool (nameB name)) ∧ w' = w) := isName_any name w hs
  have Hcall : Hid (Calls Tryz.prog 48 #[.pointer (some ⟨b, 0, none⟩), .string name] w fun e w' => e = .returned (.int .i64 (findF (sv.map SV.out) name)) ∧ Kept nothing w w') := pfind_any w b name vs sv hP.c2 hP.snaps (fun t ht => tab_slice (hP.each t ht))
  have hsl : sv.length ≤ 6 := by have := hG.snaps; rw [hP.out] at this; simpa using this
  clear hP hG
  by_cases hnb : nameB name = false
  · have Hf : Hid (dropF R name = (R, 3)) := by show _ = _; rw [dropF, if_pos hnb]
    rw [hnb] at Hn
    clear hnb
    go_enter Tryz.func22, Tryz.ntmps22
    go_wp2_with (first | (go_at_call 29; refine Hn.out.mono ?_; rintro e w' ⟨rfl, rfl⟩) | (go_at_call 30; refine (refuse_hid (by decide)).out.mono ?_; rintro e w2 ⟨err, rfl, he, hk2⟩))
    go_ret
    rw [Hf.out]
    exact ⟨_, rfl, he, ⟨_, _, HP.out.keptN hk2, RowAt.same _ _⟩, hk2.mono (fun _ _ h => h.elim)⟩
  have hnb' : nameB name = true := by simpa using hnb
  rw [hnb'] at Hn
  have Hd : Hid (dropF R name = if findF (sv.map SV.out) name < 0 then (R, 4) else ({ R with snaps := R.snaps.eraseIdx (findF (sv.map SV.out) name).toNat }, 0)) := by
    show _ = _; rw [dropF, if_neg hnb, ← HP.out.out]
  have hfr := findF_range (sv.map SV.out) name
  clear hnb hnb'
  generalize findF (sv.map SV.out) name = fd at Hd Hcall hfr
  simp only [List.length_map] at hfr
  by_cases hfd : fd < 0
  · have Hf : Hid (dropF R name = (R, 4)) := by rw [Hd.out]; show _ = _; rw [if_pos hfd]
    clear Hd
    go_enter Tryz.func22, Tryz.ntmps22
    go_wp2_with (first | (go_at_call 29; refine Hn.out.mono ?_; rintro e w' ⟨rfl, rfl⟩) | (go_at_call 48; refine Hcall.out.mono ?_; rintro e w1 ⟨rfl, hk1⟩) | (go_at_call 30; refine (refuse_hid (by decide)).out.mono ?_; rintro e w2 ⟨err, rfl, he, hk2⟩))
    go_ret
    rw [Hf.out]
    exact ⟨_, rfl, he, ⟨_, _, HP.out.keptN (hk1.trans hk2), RowAt.same _ _⟩, (hk1.trans hk2).mono (fun _ _ h => h.elim)⟩
  obtain ⟨q, rfl⟩ := Int.eq_ofNat_of_zero_le (show 0 ≤ fd by omega)
  have hq : q < sv.length := by omega
  have Hf : Hid (dropF R name = ({ R with snaps := (sv.take q ++ sv.drop (q + 1)).map SV.out }, 0)) := by
    rw [Hd.out]; show _ = _; rw [if_neg hfd, HP.out.out]
    simp only [Int.toNat_natCast, eraseIdx_eq, List.map_append, List.map_take, List.map_drop]
  clear Hd hfd
  obtain ⟨gs, scap, hvs, _, hgs, hsn, hsm⟩ := owns_parts HP.out.snaps (by omega)
  subst hvs
  obtain ⟨p, hp⟩ : ∃ p, sv.length = p + 1 := ⟨sv.length - 1, by omega⟩
  have Hp : Hid (sv.length = p + 1) := hp
  rw [hp] at hc2 HP hq hsl hfr
  clear hp
  go_enter Tryz.func22, Tryz.ntmps22
  go_wp2_with (first | (go_at_call 29; refine Hn.out.mono ?_; rintro e w' ⟨rfl, rfl⟩))
  refine Hcall.out.mono ?_
  rintro e w1 ⟨rfl, hk1⟩
  have HP1 : Hid (PRep w1 b ι R vn (.slice (some ⟨gs, 0, none⟩) (p + 1) scap) sv) := HP.out.keptN hk1
  have h12 := HP1.out.c2
  have Hdel : Hid (Calls Tryz.prog 49 #[.slice (some ⟨gs, 0, none⟩) (p + 1) scap, .int .i64 q, .int .i64 ((q : Int) + 1)] w1 fun e w' => e = .returned (.slice (some ⟨gs, 0, none⟩) p scap) ∧ w'.ownsRow 0 84 2 (.slice (some ⟨gs, 0, none⟩) p scap) p (scells (sv.take q ++ sv.drop (q + 1))) ∧ Kept (fun k => k = gs) w1 w') :=
    slDelete_p w1 gs scap p sv q Hp.out (by have := HP1.out.snaps; rw [Hp.out] at this; exact this) (fun t ht => tab_slice (HP1.out.each t ht)) hq hsl
  go_wp2_with fail
  refine Hdel.out.mono ?_
  rintro e w2 ⟨rfl, ho2, hk2⟩
  have htag : ∀ {t' : TypeId}, t' ≠ 84 → ∀ g cur, w1.heap[g]? = some (.cells cur t' (0, 0)) → ¬ g = gs := by
    intro t' ht g cur hg h
    obtain ⟨cur', hc⟩ := owns_tag HP1.out.snaps (g := gs) rfl
    exact blk_ne hg hc ht h
  have hvol2 := hk2.get HP1.out.vol (htag (by decide) _ _ HP1.out.vol)
  have hc2' := blk_cell hvol2 2 rfl
  have hf2' := blk_frozen hvol2 2
  have HE : Hid (PRep (w2.setCell ⟨b, 2, none⟩ (.slice (some ⟨gs, 0, none⟩) p scap)) b ι { R with snaps := (sv.take q ++ sv.drop (q + 1)).map SV.out } vn (.slice (some ⟨gs, 0, none⟩) p scap) (sv.take q ++ sv.drop (q + 1))) := by
    refine prep_snaps (R := R) hvol2 (HP1.out.now.kept hk2 (htag (by decide)) (htag (by decide))) ho2 ?_ ?_ rfl ?_
    · have := Hp.out; simp; omega
    · intro t ht
      have ht' : t ∈ sv := by
        rw [List.mem_append] at ht
        exact ht.elim List.mem_of_mem_take List.mem_of_mem_drop
      exact (HP1.out.each t ht').kept hk2 (htag (by decide)) (htag (by decide))
    · refine HP.out.inj.sub (fun c hc => ?_)
      simp only [allIds, List.mem_append, List.mem_flatMap, List.mem_map] at hc ⊢
      rcases hc with hc | ⟨t, ⟨s, hs, rfl⟩, hc⟩
      · exact .inl hc
      · refine .inr ⟨SV.out s, ?_, hc⟩
        rw [HP.out.out]
        exact List.mem_map_of_mem (hs.elim List.mem_of_mem_take List.mem_of_mem_drop)
  have HK2 : Hid (Kept (fun k => k = b ∨ (Value.slice (some ⟨gs, 0, none⟩) (p + 1) scap).ownBlock = some k) w' (w2.setCell ⟨b, 2, none⟩ (.slice (some ⟨gs, 0, none⟩) p scap))) := by
    refine Kept.setCell (p := ⟨b, 2, none⟩) ?_ (.inl (.inl rfl)) _
    exact (hk1.mono (fun _ _ h => h.elim)).trans' hk2 (fun i _ h => .inr (by simp [Value.ownBlock, h]))
  clear ho2 hk2 htag hvol2 hc2 h12
  go_wp2
  go_ret
  rw [Hf.out]
  exact ⟨_, rfl, ErrRep.nil _, ⟨_, _, HE.out, .inl (.inl rfl)⟩, HK2.out⟩
end Go.Proofs.YtdnjfjdhkmngjaaGreatDoor
