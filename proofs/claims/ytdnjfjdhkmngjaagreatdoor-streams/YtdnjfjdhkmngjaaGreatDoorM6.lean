import Derived.Test.YtdnjfjdhkmngjaaGreatDoorS
import Derived.Test.YtdnjfjdhkmngjaaGreatDoorT1
import Derived.Test.YtdnjfjdhkmngjaaGreatDoorM5
import Derived.Test.YtdnjfjdhkmngjaaGreatDoorE
namespace Go.Proofs.YtdnjfjdhkmngjaaGreatDoor
open Go.RowKit

/-- A volume of the program and the document's, as they lie in memory. -/
structure PS where
  b : Nat
  a : Nat
  ι : Nat → Nat
  R : Vol
  vn : Value
  pvs : Value
  psv : List SV
  vb : Value
  rvs : Value
  rsv : List SV

structure PS.Ok (w : World) (B L : Nat) (p : PS) : Prop where
  prog : PRep w p.b p.ι p.R p.vn p.pvs p.psv
  ref : RRep w p.a p.R p.vb p.rvs p.rsv
  good : Good p.R
  last : p.R.last ≤ L
  lo1 : B ≤ p.b
  lo2 : B ≤ p.a
  lo3 : ∀ g, p.pvs.ownBlock = some g → B ≤ g
  lo4 : ∀ g, p.rvs.ownBlock = some g → B ≤ g

structure Apart (p q : PS) : Prop where
  b : p.b ≠ q.b
  a : p.a ≠ q.a
  ps : ∀ g, p.pvs.ownBlock = some g → ¬ q.pvs.ownBlock = some g
  rs : ∀ g, p.rvs.ownBlock = some g → ¬ q.rvs.ownBlock = some g

def prcells (ps : List PS) : List Value := ps.flatMap fun p => [.pointer (some ⟨p.b, 0, none⟩), .pointer (some ⟨p.a, 0, none⟩)]

/-- A sender: the program's block, what is left, the whole. -/
structure SS where
  x : Nat
  left : ByteArray
  all : ByteArray

def sndcells (l : List SS) : List Value := l.flatMap fun s => [.pointer (some ⟨s.x, 0, none⟩), .string s.left, .string s.all]

/-- All senders. -/
structure Snd where
  v : Value
  l : List SS

structure Snd.Ok (w : World) (B : Nat) (S : Snd) : Prop where
  row : w.ownsRow B 135 3 S.v S.l.length (sndcells S.l)
  each : ∀ s ∈ S.l, B ≤ s.x ∧ w.heap[s.x]? = some (.cells #[.string s.left] 105 (0, 0)) ∧ s.left.size ≤ 4096 ∧ s.all.size ≤ 4096
  apart : ∀ (i j : Nat) (s t : SS), i ≠ j → S.l[i]? = some s → S.l[j]? = some t → s.x ≠ t.x

theorem Snd.Ok.kept {T : Nat → Prop} {w w' : World} {B : Nat} {S : Snd} (h : S.Ok w B) (hk : Kept T w w')
    (hrow : ∀ g cur, w.heap[g]? = some (.cells cur 135 (0, 0)) → ¬ T g) (hcell : ∀ g cur, w.heap[g]? = some (.cells cur 105 (0, 0)) → ¬ T g) : S.Ok w' B :=
  ⟨owns_lift (owns_kept (owns_weaken h.row) hk (fun g hg => by obtain ⟨cur, hc⟩ := owns_tag (owns_weaken h.row) hg; exact hrow g cur hc)) (fun _ hg => owns_above h.row hg),
   fun s hs => ⟨(h.each s hs).1, hk.get (h.each s hs).2.1 (hcell _ _ (h.each s hs).2.1), (h.each s hs).2.2⟩, h.apart⟩
theorem Snd.Ok.keptN {w w' : World} {B : Nat} {S : Snd} (h : S.Ok w B) (hk : Kept nothing w w') : S.Ok w' B := h.kept hk (fun _ _ _ h => h) (fun _ _ _ h => h)
def noSnd : Snd := ⟨.slice none 0 0, []⟩
theorem noSnd_ok (w : World) (B : Nat) : noSnd.Ok w B := ⟨World.ownsRow_nil _ _ _ _, by simp [noSnd], by simp [noSnd]⟩

/-- All that a script has made, as it lies in memory. -/
structure Wis (W0 w : World) (bw : Nat) (S : Snd) (L : Nat) (vl vnm : Value) (ps : List PS) (ns : List Value) : Prop where
  kept : Kept (fun k => k = bw) W0 w
  glob : Globals W0
  hbw : 2 ≤ bw
  world : w.heap[bw]? = some (.cells #[vl, S.v, vnm] 54 (0, 0))
  pairs : w.ownsRow W0.heap.size 96 2 vl ps.length (prcells ps)
  ok : ∀ p ∈ ps, p.Ok w W0.heap.size L
  apart : ∀ (i j : Nat) (p q : PS), i ≠ j → ps[i]? = some p → ps[j]? = some q → Apart p q
  names : w.ownsRow W0.heap.size 32 1 vnm ns.length ns
  four : ns.length % 4 = 0
  marks : ∀ (k : Nat) (v : Value), ns[k]? = some v → ∃ n, w.ownsRow 0 9 1 v n (List.replicate n (.string (lettersF (k / 4))))
  snd : S.Ok w W0.heap.size

/-- What a call on a volume may write to. -/
def Touch (p : PS) (k : Nat) : Prop := k = p.b ∨ k = p.a ∨ p.pvs.ownBlock = some k ∨ p.rvs.ownBlock = some k

theorem touch_tag {w : World} {B L : Nat} {p : PS} (h : p.Ok w B L) {k : Nat} (hk : Touch p k) : ∃ cur t, w.heap[k]? = some (.cells cur t (0, 0)) ∧ (t = 73 ∨ t = 141 ∨ t = 84 ∨ t = 143) := by
  rcases hk with rfl | rfl | hk | hk
  · exact ⟨_, _, h.prog.vol, .inl rfl⟩
  · exact ⟨_, _, h.ref.vol, .inr (.inl rfl)⟩
  · obtain ⟨cur, hc⟩ := owns_tag h.prog.snaps hk
    exact ⟨_, _, hc, .inr (.inr (.inl rfl))⟩
  · obtain ⟨cur, hc⟩ := owns_tag h.ref.snaps hk
    exact ⟨_, _, hc, .inr (.inr (.inr rfl))⟩
theorem touch_lo {w : World} {B L : Nat} {p : PS} (h : p.Ok w B L) {k : Nat} (hk : Touch p k) : B ≤ k := by
  rcases hk with rfl | rfl | hk | hk
  · exact h.lo1
  · exact h.lo2
  · exact h.lo3 k hk
  · exact h.lo4 k hk
theorem untouched {w : World} {B L : Nat} {p : PS} (h : p.Ok w B L) {g : Nat} {cur : Array Value} {t : TypeId} (hg : w.heap[g]? = some (.cells cur t (0, 0))) (h1 : t ≠ 73) (h2 : t ≠ 141) (h3 : t ≠ 84) (h4 : t ≠ 143) : ¬ Touch p g := by
  intro hk
  obtain ⟨cur', t', hc, ht⟩ := touch_tag h hk
  rw [hg] at hc
  simp only [Option.some.injEq, Obj.cells.injEq] at hc
  obtain ⟨-, rfl, -⟩ := hc
  rcases ht with h | h | h | h
  · exact h1 h
  · exact h2 h
  · exact h3 h
  · exact h4 h
/-- Another volume stays. -/
theorem PS.Ok.other {w w' : World} {B L : Nat} {p q : PS} (hp : p.Ok w B L) (hq : q.Ok w B L) (ha : Apart q p) (hk : Kept (Touch p) w w') : q.Ok w' B L := by
  have hb : ¬ Touch p q.b := by
    rintro (h | h | h | h)
    · exact ha.b h
    · exact blk_ne hq.prog.vol hp.ref.vol (by decide) h
    · obtain ⟨cur, hc⟩ := owns_tag hp.prog.snaps h
      exact blk_ne hq.prog.vol hc (by decide) rfl
    · obtain ⟨cur, hc⟩ := owns_tag hp.ref.snaps h
      exact blk_ne hq.prog.vol hc (by decide) rfl
  have hra : ¬ Touch p q.a := by
    rintro (h | h | h | h)
    · exact blk_ne hq.ref.vol hp.prog.vol (by decide) h
    · exact ha.a h
    · obtain ⟨cur, hc⟩ := owns_tag hp.prog.snaps h
      exact blk_ne hq.ref.vol hc (by decide) rfl
    · obtain ⟨cur, hc⟩ := owns_tag hp.ref.snaps h
      exact blk_ne hq.ref.vol hc (by decide) rfl
  have hps : ∀ g, q.pvs.ownBlock = some g → ¬ Touch p g := by
    intro g hg hk
    obtain ⟨cur, hc⟩ := owns_tag hq.prog.snaps hg
    rcases hk with h | h | h | h
    · subst h; exact blk_ne hc hp.prog.vol (by decide) rfl
    · subst h; exact blk_ne hc hp.ref.vol (by decide) rfl
    · exact ha.ps g hg h
    · obtain ⟨cur', hc'⟩ := owns_tag hp.ref.snaps h
      exact blk_ne hc hc' (by decide) rfl
  have hrs : ∀ g, q.rvs.ownBlock = some g → ¬ Touch p g := by
    intro g hg hk
    obtain ⟨cur, hc⟩ := owns_tag hq.ref.snaps hg
    rcases hk with h | h | h | h
    · subst h; exact blk_ne hc hp.prog.vol (by decide) rfl
    · subst h; exact blk_ne hc hp.ref.vol (by decide) rfl
    · obtain ⟨cur', hc'⟩ := owns_tag hp.prog.snaps h
      exact blk_ne hc hc' (by decide) rfl
    · exact ha.rs g hg h
  exact ⟨hq.prog.kept hk hb hps (fun g cur hg => untouched hp hg (by decide) (by decide) (by decide) (by decide)) (fun g cur hg => untouched hp hg (by decide) (by decide) (by decide) (by decide)),
    hq.ref.kept hk hra hrs (fun g cur hg => untouched hp hg (by decide) (by decide) (by decide) (by decide)), hq.good, hq.last, hq.lo1, hq.lo2, hq.lo3, hq.lo4⟩
theorem PS.Ok.keptN {w w' : World} {B L : Nat} {p : PS} (hp : p.Ok w B L) (hk : Kept nothing w w') : p.Ok w' B L :=
  ⟨hp.prog.keptN hk, hp.ref.kept hk (fun h => h) (fun _ _ h => h) (fun _ _ _ h => h), hp.good, hp.last, hp.lo1, hp.lo2, hp.lo3, hp.lo4⟩
theorem PS.Ok.mono {w : World} {B L L' : Nat} {p : PS} (hp : p.Ok w B L) (h : L ≤ L') : p.Ok w B L' := ⟨hp.prog, hp.ref, hp.good, Nat.le_trans hp.last h, hp.lo1, hp.lo2, hp.lo3, hp.lo4⟩

section
variable {W0 w w' : World} {bw L : Nat} {vl vnm : Value} {ps : List PS} {ns : List Value}
theorem owns_keptB {S : Nat → Prop} {w w' : World} {base e size : Nat} {v : Value} {n : Nat} {xs : List Value} (h : w.ownsRow base e size v n xs) (hk : Kept S w w') (hs : ∀ g, v.ownBlock = some g → ¬ S g) : w'.ownsRow base e size v n xs :=
  owns_lift (owns_kept (owns_weaken h) hk hs) (fun _ hg => owns_above h hg)
/-- Nothing old has turned. -/
theorem Wis.keptN {S : Snd} (h : Wis W0 w bw S L vl vnm ps ns) (hk : Kept nothing w w') : Wis W0 w' bw S L vl vnm ps ns :=
  ⟨h.kept.trans (hk.mono (fun _ _ h => h.elim)), h.glob, h.hbw, hk.get h.world (fun h => h), owns_keptB h.pairs hk (fun _ _ h => h), fun p hp => (h.ok p hp).keptN hk, h.apart, owns_keptB h.names hk (fun _ _ h => h), h.four,
   fun k v hv => by obtain ⟨n, hn⟩ := h.marks k v hv; exact ⟨n, owns_kept hn hk (fun _ _ h => h)⟩, h.snd.keptN hk⟩
theorem Wis.mono {S : Snd} (h : Wis W0 w bw S L vl vnm ps ns) {L' : Nat} (hL : L ≤ L') : Wis W0 w bw S L' vl vnm ps ns :=
  ⟨h.kept, h.glob, h.hbw, h.world, h.pairs, fun p hp => (h.ok p hp).mono hL, h.apart, h.names, h.four, h.marks, h.snd⟩
theorem Wis.globals {S : Snd} (h : Wis W0 w bw S L vl vnm ps ns) : Globals w := h.glob.kept h.kept (by have := h.hbw; omega) (by have := h.hbw; omega)

/-- A call on one volume. -/
theorem Wis.step {S : Snd} (h : Wis W0 w bw S L vl vnm ps ns) {i : Nat} {p p' : PS} (hi : ps[i]? = some p) (hk : Kept (Touch p) w w') {L' : Nat} (hL : L ≤ L') (hb : p'.b = p.b) (ha : p'.a = p.a)
    (hp : PRep w' p'.b p'.ι p'.R p'.vn p'.pvs p'.psv) (hr : RRep w' p'.a p'.R p'.vb p'.rvs p'.rsv) (hG : Good p'.R) (hlast : p'.R.last ≤ L') (hps : RowAt w p.pvs p'.pvs) (hrs : RowAt w p.rvs p'.rvs) :
    Wis W0 w' bw S L' vl vnm (ps.set i p') ns := by
  have hmem : p ∈ ps := List.mem_of_getElem? hi
  have hok := h.ok p hmem
  have hil : i < ps.length := (List.getElem?_eq_some_iff.1 hi).1
  have hsz := h.kept.size
  have hlo := fun k => @touch_lo w W0.heap.size L p hok k
  have hok' : p'.Ok w' W0.heap.size L' := by
    refine ⟨hp, hr, hG, hlast, by rw [hb]; exact hok.lo1, by rw [ha]; exact hok.lo2, ?_, ?_⟩
    · intro g hg
      rcases hps with (e | ⟨g', e, hg'⟩) | e
      · rw [e] at hg; exact hok.lo3 g hg
      · rw [e] at hg; cases hg; omega
      · rw [e] at hg; cases hg
    · intro g hg
      rcases hrs with (e | ⟨g', e, hg'⟩) | e
      · rw [e] at hg; exact hok.lo4 g hg
      · rw [e] at hg; cases hg; omega
      · rw [e] at hg; cases hg
  have hapart : ∀ q, q ∈ ps → Apart q p → Apart q p' ∧ Apart p' q := by
    intro q hq haq
    have hqo := h.ok q hq
    have f1 : ∀ g, q.pvs.ownBlock = some g → ¬ p'.pvs.ownBlock = some g := by
      intro g hg hg'
      obtain ⟨cur, hc⟩ := owns_tag hqo.prog.snaps hg
      rcases hps with (e | ⟨g', e, hge⟩) | e
      · exact haq.ps g hg (e ▸ hg')
      · rw [e] at hg'; cases hg'; have := blk_lt hc; omega
      · rw [e] at hg'; cases hg'
    have f2 : ∀ g, q.rvs.ownBlock = some g → ¬ p'.rvs.ownBlock = some g := by
      intro g hg hg'
      obtain ⟨cur, hc⟩ := owns_tag hqo.ref.snaps hg
      rcases hrs with (e | ⟨g', e, hge⟩) | e
      · exact haq.rs g hg (e ▸ hg')
      · rw [e] at hg'; cases hg'; have := blk_lt hc; omega
      · rw [e] at hg'; cases hg'
    exact ⟨⟨by rw [hb]; exact haq.b, by rw [ha]; exact haq.a, f1, f2⟩, ⟨by rw [hb]; exact haq.b.symm, by rw [ha]; exact haq.a.symm, fun g hg hg' => f1 g hg' hg, fun g hg hg' => f2 g hg' hg⟩⟩
  refine ⟨h.kept.trans' hk (fun k hk1 hk2 => by have := hlo k hk2; omega), h.glob, h.hbw, hk.get h.world (untouched hok h.world (by decide) (by decide) (by decide) (by decide)), ?_, ?_, ?_, ?_, h.four, ?_,
    h.snd.kept hk (fun g cur hg => untouched hok hg (by decide) (by decide) (by decide) (by decide)) (fun g cur hg => untouched hok hg (by decide) (by decide) (by decide) (by decide))⟩
  · have hcells : prcells (ps.set i p') = prcells ps := by
      have he : (ps.set i p').map (fun p => (p.b, p.a)) = ps.map (fun p => (p.b, p.a)) := by
        rw [List.map_set]
        apply List.ext_getElem?
        intro j
        rw [List.getElem?_set]
        split
        · rename_i hij
          subst hij
          rw [if_pos (by simpa using hil), List.getElem?_map, hi]
          simp [hb, ha]
        · rfl
      have hpr : ∀ l : List PS, prcells l = (l.map (fun p => (p.b, p.a))).flatMap fun x => [.pointer (some ⟨x.1, 0, none⟩), .pointer (some ⟨x.2, 0, none⟩)] := by
        intro l; simp [prcells, List.flatMap_map]
      rw [hpr, hpr, he]
    rw [hcells, List.length_set]
    exact owns_keptB h.pairs hk (fun g hg => by obtain ⟨cur, hc⟩ := owns_tag (owns_weaken h.pairs) hg; exact untouched hok hc (by decide) (by decide) (by decide) (by decide))
  · intro q hq
    obtain ⟨j, hj, hjq⟩ := List.getElem_of_mem hq
    by_cases hij : i = j
    · subst hij
      simp at hjq
      rw [← hjq]; exact hok'
    · rw [List.getElem_set_ne hij] at hjq
      have hj' : j < ps.length := by simpa using hj
      have hqm : q ∈ ps := by rw [← hjq]; exact List.getElem_mem _
      exact (hok.other (h.ok q hqm) (h.apart j i q p (fun e => hij e.symm) (by rw [← hjq]; simp) hi) hk).mono hL
  · intro i1 j1 p1 q1 hne h1 h2
    rw [List.getElem?_set] at h1 h2
    by_cases e1 : i = i1
    · rw [if_pos e1, if_pos hil] at h1
      cases h1
      rw [if_neg (fun e => hne (e1.symm.trans e))] at h2
      have hqm : q1 ∈ ps := List.mem_of_getElem? h2
      exact (hapart q1 hqm (h.apart j1 i q1 p (fun e => hne (by omega)) h2 hi)).2
    · rw [if_neg e1] at h1
      by_cases e2 : i = j1
      · rw [if_pos e2, if_pos hil] at h2
        cases h2
        have hqm : p1 ∈ ps := List.mem_of_getElem? h1
        exact (hapart p1 hqm (h.apart i1 i p1 p (fun e => e1 e.symm) h1 hi)).1
      · rw [if_neg e2] at h2
        exact h.apart i1 j1 p1 q1 hne h1 h2
  · exact owns_keptB h.names hk (fun g hg => by obtain ⟨cur, hc⟩ := owns_tag (owns_weaken h.names) hg; exact untouched hok hc (by decide) (by decide) (by decide) (by decide))
  · intro k v hv
    obtain ⟨n, hn⟩ := h.marks k v hv
    exact ⟨n, owns_kept hn hk (fun g hg => by obtain ⟨cur, hc⟩ := owns_tag hn hg; exact untouched hok hc (by decide) (by decide) (by decide) (by decide))⟩
end
end Go.Proofs.YtdnjfjdhkmngjaaGreatDoor
