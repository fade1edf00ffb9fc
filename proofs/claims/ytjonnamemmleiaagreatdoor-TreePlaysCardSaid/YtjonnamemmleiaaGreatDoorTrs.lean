/- A path's parent is on the way; a node put into a Tree. Plain lemmas. -/
import Derived.Test.YtjonnamemmleiaaGreatDoorTrp
namespace Go.Proofs.YtjonnamemmleiaaGreatDoor
open Go.RowKit Go.Maps Go.WideMaps

theorem last_split (c : UInt8) : ∀ l : List UInt8, c ∈ l → ∃ a b, l = a ++ c :: b ∧ c ∉ b
  | [], h => by cases h
  | x :: l, h => by
    by_cases hl : c ∈ l
    · obtain ⟨a, b, e, hb⟩ := last_split c l hl
      exact ⟨x :: a, b, by rw [e]; rfl, hb⟩
    · rcases List.mem_cons.1 h with rfl | h
      · exact ⟨[], l, rfl, hl⟩
      · exact absurd h hl
theorem dirs_at (l : List UInt8) (k : Nat) (h : l[k + 1]? = some 47) : l.take (k + 1) ∈ dirs l (k + 1) := by
  rw [dirs, if_pos h]
  exact List.mem_append_right _ (List.mem_singleton.2 rfl)
theorem path_head {p : List UInt8} (h : pathOk p = true) : ∃ t, p = 47 :: t := by
  unfold pathOk at h
  rw [Bool.or_eq_true] at h
  rcases h with h | h
  · exact ⟨[], by simpa using h⟩
  · rw [Bool.and_eq_true, Bool.and_eq_true] at h
    have h1 := h.1.1
    cases p with
    | nil => simp at h1
    | cons x t =>
      simp at h1
      exact ⟨t, by rw [h1]⟩
/-- A path but the top has a parent, which is on the way. -/
theorem parent_on {p : List UInt8} (h : pathOk p = true) (h1 : p ≠ [47]) : ∃ a b, p = a ++ 47 :: b ∧ (47 : UInt8) ∉ b ∧ p.take (max a.length 1) ∈ aheads p := by
  obtain ⟨t, ht⟩ := path_head h
  obtain ⟨a, b, hab, hb⟩ := last_split 47 p (by rw [ht]; exact List.mem_cons_self)
  refine ⟨a, b, hab, hb, ?_⟩
  unfold aheads
  rw [if_neg h1]
  have hlen : p.length = a.length + 1 + b.length := by rw [hab, List.length_append, List.length_cons]; omega
  cases a with
  | nil =>
    have : p.take (max ([] : List UInt8).length 1) = [47] := by rw [ht]; rfl
    rw [this]
    exact (dirs_le p (Nat.zero_le _)).subset (by simp [dirs])
  | cons x a =>
    have hk : p[a.length + 1]? = some 47 := by rw [hab, List.getElem?_append_right (by simp)]; simp
    rw [show max (x :: a).length 1 = a.length + 1 by simp]
    exact (dirs_le p (show a.length + 1 ≤ p.length - 1 by rw [hlen, List.length_cons]; omega)).subset (dirs_at p a.length hk)
theorem comeE_all {M : List (List UInt8 × Nd)} {who : ByteArray} : ∀ {ds : List (List UInt8)}, comeE M who ds = 0 → ∀ d ∈ ds, ∃ n, M.lookup d = some n ∧ n.dir = true
  | [], _, d, hd => by cases hd
  | x :: ds, h, d, hd => by
    rw [comeE] at h
    cases hl : M.lookup x with
    | none => rw [hl] at h; cases h
    | some n =>
      rw [hl] at h
      simp only at h
      by_cases h1 : n.dir = false
      · rw [if_pos h1] at h; cases h
      · rw [if_neg h1] at h
        by_cases h2 : mayOk who 1 n.owner n.mode = false
        · rw [if_pos h2] at h; cases h
        · rw [if_neg h2] at h
          rcases List.mem_cons.1 hd with rfl | hd
          · exact ⟨n, hl, by cases hn : n.dir <;> simp_all⟩
          · exact comeE_all h d hd
theorem lookup_app (M : List (List UInt8 × Nd)) (p q : List UInt8) (n : Nd) (h : M.lookup p = none) : (M ++ [(p, n)]).lookup q = if q = p then some n else M.lookup q := by
  induction M with
  | nil =>
    rw [List.nil_append, List.lookup_cons]
    by_cases e : q = p
    · rw [if_pos e, e]; simp
    · rw [if_neg e, beq_eq_false_iff_ne.2 e]
  | cons x M ih =>
    obtain ⟨y, m⟩ := x
    rw [List.lookup_cons] at h
    rw [List.cons_append, List.lookup_cons, List.lookup_cons]
    by_cases e1 : p = y
    · rw [e1] at h; simp at h
    · rw [beq_eq_false_iff_ne.2 e1] at h
      have ih := ih h
      by_cases e2 : q = y
      · rw [e2]
        simp only [beq_self_eq_true]
        rw [if_neg (fun e => e1 e.symm)]
      · rw [beq_eq_false_iff_ne.2 e2]
        exact ih
theorem without_out {M : List (List UInt8 × Nd)} {p : List UInt8} (h : M.lookup p = none) : withoutM M p = M := by
  unfold withoutM
  refine List.filter_eq_self.2 fun x hx => ?_
  have := lookup_out h
  simp only [decide_eq_true_eq]
  intro e
  exact this (mem_keysM.2 ⟨x.2, by rw [← e]; exact hx⟩)
theorem lookup_turn (M : List (List UInt8 × Nd)) (p q : List UInt8) (f : Nd → Nd) : (turn p f M).lookup q = if q = p then (M.lookup q).map f else M.lookup q := by
  induction M with
  | nil => simp [turn]
  | cons x M ih =>
    obtain ⟨y, m⟩ := x
    unfold turn at ih ⊢
    rw [List.map_cons]
    by_cases e1 : y = p
    · rw [if_pos e1, List.lookup_cons, List.lookup_cons, ih]
      by_cases e2 : q = y
      · rw [e2]; simp [e1]
      · rw [beq_eq_false_iff_ne.2 e2]
    · rw [if_neg e1, List.lookup_cons, List.lookup_cons, ih]
      by_cases e2 : q = y
      · rw [e2]; simp [e1]
      · rw [beq_eq_false_iff_ne.2 e2]
end Go.Proofs.YtjonnamemmleiaaGreatDoor
namespace Go.Proofs.YtjonnamemmleiaaGreatDoor
open Go.RowKit Go.Maps Go.WideMaps

section
variable {w w' : World} {base : Nat} {e : TypeId} {v : Value} {l : List UInt8}
theorem OwnB.ne_map (h : OwnB w base e v l) {g : Nat} {es : Array MapEntry} {cl : Nat} (hg : w.heap[g]? = some (.map es cl)) : v.ownBlock ≠ some g := by
  rcases h.2 with ⟨rfl, _⟩ | ⟨g', _, _, rfl, _, hg', _⟩
  · simp [Value.ownBlock]
  · intro he
    have : g' = g := by simpa [Value.ownBlock] using he
    subst this
    rw [hg] at hg'
    cases hg'
theorem MT.block {P : Program} {k : TypeId} {α β : Type} {kv : α → Value} {vv : β → Value} {w : World} {b : Nat} {M : List (α × β)} (h : MT P k kv vv w b M) : ∃ es cl, w.heap[b]? = some (.map es cl) := by
  obtain ⟨_, es, clock, hm, _⟩ := h
  exact ⟨es, clock, hm⟩
theorem CB.ne_map {g b : Nat} {t : TypeId} {cs : List Value} (h : CB w g t cs) {es : Array MapEntry} {cl : Nat} (hb : w.heap[b]? = some (.map es cl)) : g ≠ b := by
  intro e
  subst e
  have := hb.symm.trans h
  injection this with this
  cases this
end
/-- A node is put where there is none. -/
theorem TS.put {w w' : World} {tb mb : Nat} {M : List (List UInt8 × Nd)} (h : TS w tb mb M) {p : List UInt8} {nd : Nd} (hp : M.lookup p = none)
    (hm : MT Tryz.prog 9 kS vN w' mb (M ++ [(p, nd)])) (hg : w.grownBy w' (some mb)) (hC : CB w nd.blk 63 (nodeC ⟨p.toArray⟩ nd.dir nd.owner nd.mode nd.data)) (hmode : nd.mode < 64)
    (hne : ∀ q n, (q, n) ∈ M → n.blk ≠ nd.blk) {l : List UInt8} (ho : OwnB w 0 5 nd.data l) (hl : l.length ≤ 1000000) (hr : ∀ q n k, (q, n) ∈ M → n.data.ownBlock = some k → nd.data.ownBlock ≠ some k) : TS w' tb mb (M ++ [(p, nd)]) := by
  obtain ⟨es, cl, hmb⟩ := h.tr.map.block
  have htb : CB w tb 96 [.map (some mb)] := h.tr.top
  have mem : ∀ {q n}, (q, n) ∈ M ++ [(p, nd)] → (q, n) ∈ M ∨ (q = p ∧ n = nd) := by
    intro q n hq
    rcases List.mem_append.1 hq with hq | hq
    · exact .inl hq
    · rw [List.mem_singleton] at hq
      injection hq with h1 h2
      exact .inr ⟨h1, h2⟩
  have hout : ∀ n, (p, n) ∉ M := fun n hn => lookup_out hp (mem_keysM.2 ⟨n, hn⟩)
  refine ⟨⟨htb.grown hg (htb.ne_map hmb), hm, fun q n hq => ?_⟩, fun q n q' n' hq hq' he => ?_, fun q n hq => ?_, fun q n q' n' k hq hq' hk hk' => ?_⟩
  · rcases mem hq with hq | ⟨rfl, rfl⟩
    · exact ⟨(h.tr.nodes q n hq).1.grown hg ((h.tr.nodes q n hq).1.ne_map hmb), (h.tr.nodes q n hq).2⟩
    · exact ⟨hC.grown hg (hC.ne_map hmb), hmode⟩
  · rcases mem hq with i1 | ⟨rfl, rfl⟩ <;> rcases mem hq' with i2 | ⟨rfl, rfl⟩
    · exact h.sep _ _ _ _ i1 i2 he
    · exact absurd he (hne _ _ i1)
    · exact absurd he.symm (hne _ _ i2)
    · rfl
  · rcases mem hq with hq | ⟨rfl, rfl⟩
    · obtain ⟨l', h1, h2⟩ := h.row q n hq
      exact ⟨l', World.ownsRow.kept h1 hg (.inr (h1.ne_map hmb)), h2⟩
    · exact ⟨l, World.ownsRow.kept ho hg (.inr (ho.ne_map hmb)), hl⟩
  · rcases mem hq with i1 | ⟨rfl, rfl⟩ <;> rcases mem hq' with i2 | ⟨rfl, rfl⟩
    · exact h.rsep _ _ _ _ k i1 i2 hk hk'
    · exact absurd hk' (hr _ _ k i1 hk)
    · exact absurd hk (hr _ _ k i2 hk')
    · rfl
/-- A node's data are set where it lies. -/
theorem TS.data {w : World} {tb mb : Nat} {M : List (List UInt8 × Nd)} (h : TS w tb mb M) {p : List UInt8} {n : Nd} (hin : (p, n) ∈ M) (v : Value) {l : List UInt8} (ho : OwnB w 0 5 v l) (hl : l.length ≤ 1000000) (hr : ∀ q n' k, (q, n') ∈ M → n'.data.ownBlock = some k → v.ownBlock ≠ some k) :
    TS (w.setCell ⟨n.blk, 4, none⟩ v) tb mb (turn p (fun x => { x with data := v }) M) := by
  have hfar (k : Nat) (hk : k ≠ n.blk) : (w.setCell ⟨n.blk, 4, none⟩ v).heap[k]? = w.heap[k]? := Below.heap_setCell w ⟨n.blk, 4, none⟩ _ k hk
  have hne := h.tr.tb_ne hin
  have hgr : w.grownBy (w.setCell ⟨n.blk, 4, none⟩ v) (some n.blk) := grownC_set _ _ _ _
  refine ⟨⟨(hfar _ hne.1).trans h.tr.top, ?_, ?_⟩, ?_, ?_, ?_⟩
  · obtain ⟨hf, es, clock, hmb, F⟩ := h.tr.map
    exact MT.turn (w := w.setCell ⟨n.blk, 4, none⟩ v) ⟨hf, es, clock, (hfar _ hne.2).trans hmb, F⟩ p _ (fun _ => rfl)
  · intro q n1 h1
    obtain ⟨m, hmm, ⟨rfl, rfl⟩ | ⟨hq, rfl⟩⟩ := mem_turn h1
    · obtain rfl := nodup_one h.tr.map.1.1 hin hmm
      exact ⟨(h.tr.nodes _ _ hin).1.set_ 4 _, (h.tr.nodes _ _ hin).2⟩
    · exact ⟨(h.tr.nodes _ _ hmm).1.far (p := ⟨n.blk, 4, none⟩) (fun e => hq (h.sep _ _ _ _ hmm hin e)) _, (h.tr.nodes _ _ hmm).2⟩
  · intro q1 n1 q2 n2 h1 h2 he
    obtain ⟨m1, hm1, e1⟩ := mem_turn h1
    obtain ⟨m2, hm2, e2⟩ := mem_turn h2
    refine h.sep q1 m1 q2 m2 hm1 hm2 ?_
    rcases e1 with ⟨_, rfl⟩ | ⟨_, rfl⟩ <;> rcases e2 with ⟨_, rfl⟩ | ⟨_, rfl⟩ <;> exact he
  · intro q n1 h1
    obtain ⟨m, hmm, e1⟩ := mem_turn h1
    rcases e1 with ⟨_, rfl⟩ | ⟨_, rfl⟩
    · exact ⟨l, World.ownsRow.kept ho hgr (.inr (ho.ne_cells (h.tr.nodes _ _ hin).1 (by decide))), hl⟩
    · obtain ⟨l', hl', hlen⟩ := h.row q n1 hmm
      exact ⟨l', World.ownsRow.kept hl' hgr (.inr (hl'.ne_cells (h.tr.nodes _ _ hin).1 (by decide))), hlen⟩
  · intro q1 n1 q2 n2 k h1 h2 k1 k2
    obtain ⟨m1, hm1, e1⟩ := mem_turn h1
    obtain ⟨m2, hm2, e2⟩ := mem_turn h2
    rcases e1 with ⟨a1, rfl⟩ | ⟨a1, rfl⟩ <;> rcases e2 with ⟨a2, rfl⟩ | ⟨a2, rfl⟩
    · rw [a1, a2]
    · exact absurd k1 (hr _ _ k hm2 k2)
    · exact absurd k2 (hr _ _ k hm1 k1)
    · exact h.rsep q1 n1 q2 n2 k hm1 hm2 k1 k2
end Go.Proofs.YtjonnamemmleiaaGreatDoor
namespace Go.Proofs.YtjonnamemmleiaaGreatDoor
open Go.RowKit Go.Maps Go.WideMaps

/-- A path's parent. -/
def parOf (p : List UInt8) : List UInt8 := p.take (max (p.length - 1 - (p.reverse.takeWhile (fun c => !(c == 47))).length) 1)
theorem takeWhile_rev (a b : List UInt8) (hb : (47 : UInt8) ∉ b) : ((a ++ 47 :: b).reverse.takeWhile (fun c => !(c == 47))).length = b.length := by
  rw [List.reverse_append, List.reverse_cons, List.append_assoc]
  have h : ∀ (r s : List UInt8), (47 : UInt8) ∉ r → (r ++ ([47] ++ s)).takeWhile (fun c => !(c == 47)) = r := by
    intro r s hr
    induction r with
    | nil => rfl
    | cons x r ih =>
      have hx : x ≠ 47 := fun e => hr (by rw [e]; exact List.mem_cons_self)
      rw [List.cons_append, List.takeWhile_cons, beq_eq_false_iff_ne.2 hx]
      simp only [Bool.not_false, if_true]
      rw [ih (fun e => hr (List.mem_cons_of_mem _ e))]
  rw [h b.reverse a.reverse (by simpa using hb), List.length_reverse]
theorem parOf_eq {p a b : List UInt8} (h : p = a ++ 47 :: b) (hb : (47 : UInt8) ∉ b) : parOf p = p.take (max a.length 1) := by
  unfold parOf
  rw [h, takeWhile_rev a b hb, List.length_append, List.length_cons]
  congr 1
  congr 1
  omega
/-- May a node be made at a path to which one came? -/
def addC (M : List (List UInt8 × Nd)) (who : ByteArray) (p : List UInt8) : Int := match M.lookup (parOf p) with
  | none => 0
  | some n => if mayOk who 2 n.owner n.mode = false then 114 else if 64 ≤ M.length then 2 else 0
def mkdirC (M : List (List UInt8 × Nd)) (who : ByteArray) (p : List UInt8) (m : Int) : Int :=
  if (comeR M who p).2 ≠ 0 then (comeR M who p).2 else if ¬ (0 ≤ m ∧ m ≤ 63) then 1 else match M.lookup p with
    | some _ => 111
    | none => addC M who p
def writeC (M : List (List UInt8 × Nd)) (who : ByteArray) (p : List UInt8) (len : Nat) (m : Int) : Int :=
  if (comeR M who p).2 ≠ 0 then (comeR M who p).2 else if ¬ (0 ≤ m ∧ m ≤ 63) then 1 else if 1000 < len then 23 else match M.lookup p with
    | none => addC M who p
    | some n => if n.dir = true then 113 else if mayOk who 2 n.owner n.mode = false then 114 else 0
theorem come_path {M : List (List UInt8 × Nd)} {who : ByteArray} {p : List UInt8} (h : (comeR M who p).2 = 0) : pathOk p = true ∧ comeE M who (aheads p) = 0 := by
  unfold comeR at h
  split at h
  · cases h
  · rename_i h1
    split at h
    · rename_i h2
      exact ⟨by cases hp : pathOk p <;> simp_all, h2⟩
    · rename_i h2
      exact absurd h h2
/-- Where there is no node at a path to which one came, there is its parent. -/
theorem parent_in {M : List (List UInt8 × Nd)} {who : ByteArray} {p : List UInt8} (h : (comeR M who p).2 = 0) (ht : ∃ n, M.lookup [47] = some n) (hn : M.lookup p = none) :
    ∃ a b n, p = a ++ 47 :: b ∧ (47 : UInt8) ∉ b ∧ parOf p = p.take (max a.length 1) ∧ M.lookup (parOf p) = some n ∧ n.dir = true := by
  obtain ⟨h1, h2⟩ := come_path h
  have hne : p ≠ [47] := by
    intro e
    obtain ⟨n, ht⟩ := ht
    rw [e, ht] at hn
    cases hn
  obtain ⟨a, b, hab, hb, hin⟩ := parent_on h1 hne
  obtain ⟨n, hl, hd⟩ := comeE_all h2 _ hin
  rw [← parOf_eq hab hb] at hin hl
  exact ⟨a, b, n, hab, hb, parOf_eq hab hb, hl, hd⟩
end Go.Proofs.YtjonnamemmleiaaGreatDoor
