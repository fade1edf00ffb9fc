/- A Tree whose nodes lie apart; a node's mode turned. -/
import Derived.Test.YtmbmahpklkcioaaDoorTrl
namespace Go.Proofs.YtmbmahpklkcioaaDoor
open Go.RowKit Go.Maps Go.WideMaps

/-- A Tree, its nodes and their data apart. -/
structure TS (w : World) (tb mb : Nat) (M : List (List UInt8 × Nd)) : Prop where
  tr : TR w tb mb M
  sep : ∀ p n p' n', (p, n) ∈ M → (p', n') ∈ M → n.blk = n'.blk → p = p'
  row : ∀ p n, (p, n) ∈ M → ∃ l : List UInt8, OwnB w 0 5 n.data l ∧ l.length ≤ 1000000
  rsep : ∀ p n p' n' k, (p, n) ∈ M → (p', n') ∈ M → n.data.ownBlock = some k → n'.data.ownBlock = some k → p = p'
def turn (p : List UInt8) (f : Nd → Nd) (M : List (List UInt8 × Nd)) : List (List UInt8 × Nd) := M.map fun x => if x.1 = p then (x.1, f x.2) else x
theorem keys_turn (p : List UInt8) (f : Nd → Nd) (M : List (List UInt8 × Nd)) : keysM (turn p f M) = keysM M := by
  unfold keysM turn
  rw [List.map_map]
  refine List.map_congr_left fun x _ => ?_
  simp only [Function.comp]
  split <;> rfl
theorem MT.turn {P : Program} {k : TypeId} {w : World} {b : Nat} {M : List (List UInt8 × Nd)} (h : MT P k kS vN w b M) (p : List UInt8) (f : Nd → Nd) (hf : ∀ n, (f n).blk = n.blk) : MT P k kS vN w b (turn p f M) := by
  have hd : datM P k kS vN (Go.Proofs.YtmbmahpklkcioaaDoor.turn p f M) = datM P k kS vN M := by
    unfold datM Go.Proofs.YtmbmahpklkcioaaDoor.turn
    rw [List.map_map]
    congr 1
    congr 1
    refine List.map_congr_left fun x _ => ?_
    simp only [Function.comp]
    split
    · unfold ent vN
      rw [hf]
    · rfl
  refine ⟨⟨by rw [keys_turn]; exact h.1.1, fun a ha => h.1.2 a (by rw [keys_turn] at ha; exact ha)⟩, ?_⟩
  rw [hd, show (Go.Proofs.YtmbmahpklkcioaaDoor.turn p f M).length = M.length from by unfold Go.Proofs.YtmbmahpklkcioaaDoor.turn; rw [List.length_map]]
  exact h.2
theorem mem_turn {p q : List UInt8} {f : Nd → Nd} {M : List (List UInt8 × Nd)} {n : Nd} (h : (q, n) ∈ turn p f M) : ∃ m, (q, m) ∈ M ∧ ((q = p ∧ n = f m) ∨ (q ≠ p ∧ n = m)) := by
  unfold turn at h
  obtain ⟨x, hx, e⟩ := List.mem_map.1 h
  by_cases hp : x.1 = p
  · rw [if_pos hp] at e
    cases e
    exact ⟨x.2, hx, .inl ⟨hp, rfl⟩⟩
  · rw [if_neg hp] at e
    subst e
    exact ⟨n, hx, .inr ⟨hp, rfl⟩⟩

section
variable {w : World} {base : Nat} {e t : TypeId} {v : Value} {l : List UInt8}
theorem OwnB.ne_cells (h : OwnB w base e v l) {g : Nat} {cs : List Value} (hc : CB w g t cs) (hne : e ≠ t) : v.ownBlock ≠ some g := by
  rcases h.2 with ⟨rfl, _⟩ | ⟨g', _, _, rfl, _, hg', _⟩
  · simp [Value.ownBlock]
  · intro he
    have : g' = g := by simpa [Value.ownBlock] using he
    subst this
    rw [show w.heap[g']? = _ from hc] at hg'
    injection hg' with hg'
    injection hg' with _ ht
    exact hne ht.symm
end
theorem nodup_one : ∀ {M : List (List UInt8 × Nd)} {p : List UInt8} {n m : Nd}, (keysM M).Nodup → (p, n) ∈ M → (p, m) ∈ M → n = m
  | [], _, _, _, _, h, _ => by cases h
  | x :: M, p, n, m, hd, h1, h2 => by
    have hd' : x.1 ∉ keysM M ∧ (keysM M).Nodup := List.nodup_cons.1 hd
    rcases List.mem_cons.1 h1 with e1 | h1'
    · rcases List.mem_cons.1 h2 with e2 | h2'
      · rw [← e1] at e2; cases e2; rfl
      · exact absurd (mem_keysM.2 ⟨m, by rw [← e1]; exact h2'⟩) hd'.1
    · rcases List.mem_cons.1 h2 with e2 | h2'
      · exact absurd (mem_keysM.2 ⟨n, by rw [← e2]; exact h1'⟩) hd'.1
      · exact nodup_one hd'.2 h1' h2'
theorem TR.tb_ne {w : World} {tb mb : Nat} {M : List (List UInt8 × Nd)} (h : TR w tb mb M) {p : List UInt8} {n : Nd} (hin : (p, n) ∈ M) : tb ≠ n.blk ∧ mb ≠ n.blk := by
  have hN := (h.nodes p n hin).1
  constructor
  · intro e
    have := h.top
    rw [e] at this
    have hx := this.symm.trans hN
    injection hx with hx
    injection hx with h1 h2 h3
    exact absurd h2 (by decide)
  · intro e
    obtain ⟨hf, es, clock, hm, F⟩ := h.map
    rw [e] at hm
    have hx := hm.symm.trans hN
    injection hx with hx
    cases hx
/-- A node's mode is turned where it lies. -/
theorem TS.mode {w : World} {tb mb : Nat} {M : List (List UInt8 × Nd)} (h : TS w tb mb M) {p : List UInt8} {n : Nd} (hin : (p, n) ∈ M) (m' : Nat) (hm : m' < 64) :
    TS (w.setCell ⟨n.blk, 3, none⟩ (.int .i64 m')) tb mb (turn p (fun x => { x with mode := m' }) M) := by
  have hfar (k : Nat) (hk : k ≠ n.blk) : (w.setCell ⟨n.blk, 3, none⟩ (.int .i64 m')).heap[k]? = w.heap[k]? := Below.heap_setCell w ⟨n.blk, 3, none⟩ _ k hk
  have hne := h.tr.tb_ne hin
  refine ⟨⟨(hfar _ hne.1).trans h.tr.top, ?_, ?_⟩, ?_, ?_, ?_⟩
  · obtain ⟨hf, es, clock, hmb, F⟩ := h.tr.map
    exact MT.turn (w := w.setCell ⟨n.blk, 3, none⟩ (.int .i64 m')) ⟨hf, es, clock, (hfar _ hne.2).trans hmb, F⟩ p _ (fun _ => rfl)
  · intro q n1 h1
    obtain ⟨m, hmm, ⟨rfl, rfl⟩ | ⟨hq, rfl⟩⟩ := mem_turn h1
    · obtain rfl := nodup_one h.tr.map.1.1 hin hmm
      exact ⟨(h.tr.nodes _ _ hin).1.set_ 3 _, hm⟩
    · exact ⟨(h.tr.nodes _ _ hmm).1.far (p := ⟨n.blk, 3, none⟩) (fun e => hq (h.sep _ _ _ _ hmm hin e)) _, (h.tr.nodes _ _ hmm).2⟩
  · intro q1 n1 q2 n2 h1 h2 he
    obtain ⟨m1, hm1, e1⟩ := mem_turn h1
    obtain ⟨m2, hm2, e2⟩ := mem_turn h2
    refine h.sep q1 m1 q2 m2 hm1 hm2 ?_
    rcases e1 with ⟨_, rfl⟩ | ⟨_, rfl⟩ <;> rcases e2 with ⟨_, rfl⟩ | ⟨_, rfl⟩ <;> exact he
  · intro q n1 h1
    obtain ⟨m, hmm, e1⟩ := mem_turn h1
    obtain ⟨l, hl, hlen⟩ := h.row q m hmm
    have hd : n1.data = m.data := by rcases e1 with ⟨_, rfl⟩ | ⟨_, rfl⟩ <;> rfl
    rw [hd]
    refine ⟨l, World.ownsRow.kept (row := some n.blk) hl ⟨rfl, rfl, rfl, by simp, fun k hk hn => hfar k (fun e => hn (by rw [e]))⟩ (.inr (hl.ne_cells (h.tr.nodes _ _ hin).1 (by decide))), hlen⟩
  · intro q1 n1 q2 n2 k h1 h2 k1 k2
    obtain ⟨m1, hm1, e1⟩ := mem_turn h1
    obtain ⟨m2, hm2, e2⟩ := mem_turn h2
    have hd1 : n1.data = m1.data := by rcases e1 with ⟨_, rfl⟩ | ⟨_, rfl⟩ <;> rfl
    have hd2 : n2.data = m2.data := by rcases e2 with ⟨_, rfl⟩ | ⟨_, rfl⟩ <;> rfl
    exact h.rsep q1 m1 q2 m2 k hm1 hm2 (by rw [← hd1]; exact k1) (by rw [← hd2]; exact k2)
/-- A node's owner is turned where it lies. -/
theorem TS.owner {w : World} {tb mb : Nat} {M : List (List UInt8 × Nd)} (h : TS w tb mb M) {p : List UInt8} {n : Nd} (hin : (p, n) ∈ M) (o' : ByteArray) :
    TS (w.setCell ⟨n.blk, 2, none⟩ (.string o')) tb mb (turn p (fun x => { x with owner := o' }) M) := by
  have hfar (k : Nat) (hk : k ≠ n.blk) : (w.setCell ⟨n.blk, 2, none⟩ (.string o')).heap[k]? = w.heap[k]? := Below.heap_setCell w ⟨n.blk, 2, none⟩ _ k hk
  have hne := h.tr.tb_ne hin
  refine ⟨⟨(hfar _ hne.1).trans h.tr.top, ?_, ?_⟩, ?_, ?_, ?_⟩
  · obtain ⟨hf, es, clock, hmb, F⟩ := h.tr.map
    exact MT.turn (w := w.setCell ⟨n.blk, 2, none⟩ (.string o')) ⟨hf, es, clock, (hfar _ hne.2).trans hmb, F⟩ p _ (fun _ => rfl)
  · intro q n1 h1
    obtain ⟨m, hmm, ⟨rfl, rfl⟩ | ⟨hq, rfl⟩⟩ := mem_turn h1
    · obtain rfl := nodup_one h.tr.map.1.1 hin hmm
      exact ⟨(h.tr.nodes _ _ hin).1.set_ 2 _, (h.tr.nodes _ _ hin).2⟩
    · exact ⟨(h.tr.nodes _ _ hmm).1.far (p := ⟨n.blk, 2, none⟩) (fun e => hq (h.sep _ _ _ _ hmm hin e)) _, (h.tr.nodes _ _ hmm).2⟩
  · intro q1 n1 q2 n2 h1 h2 he
    obtain ⟨m1, hm1, e1⟩ := mem_turn h1
    obtain ⟨m2, hm2, e2⟩ := mem_turn h2
    refine h.sep q1 m1 q2 m2 hm1 hm2 ?_
    rcases e1 with ⟨_, rfl⟩ | ⟨_, rfl⟩ <;> rcases e2 with ⟨_, rfl⟩ | ⟨_, rfl⟩ <;> exact he
  · intro q n1 h1
    obtain ⟨m, hmm, e1⟩ := mem_turn h1
    obtain ⟨l, hl, hlen⟩ := h.row q m hmm
    have hd : n1.data = m.data := by rcases e1 with ⟨_, rfl⟩ | ⟨_, rfl⟩ <;> rfl
    rw [hd]
    refine ⟨l, World.ownsRow.kept (row := some n.blk) hl ⟨rfl, rfl, rfl, by simp, fun k hk hn => hfar k (fun e => hn (by rw [e]))⟩ (.inr (hl.ne_cells (h.tr.nodes _ _ hin).1 (by decide))), hlen⟩
  · intro q1 n1 q2 n2 k h1 h2 k1 k2
    obtain ⟨m1, hm1, e1⟩ := mem_turn h1
    obtain ⟨m2, hm2, e2⟩ := mem_turn h2
    have hd1 : n1.data = m1.data := by rcases e1 with ⟨_, rfl⟩ | ⟨_, rfl⟩ <;> rfl
    have hd2 : n2.data = m2.data := by rcases e2 with ⟨_, rfl⟩ | ⟨_, rfl⟩ <;> rfl
    exact h.rsep q1 m1 q2 m2 k hm1 hm2 (by rw [← hd1]; exact k1) (by rw [← hd2]; exact k2)
theorem TS.below {w w' : World} {tb mb : Nat} {M : List (List UInt8 × Nd)} (h : TS w tb mb M) (hb : Below w.heap.size w w') : TS w' tb mb M := by
  obtain ⟨h1, h2, h3⟩ := h.tr.lts
  exact ⟨h.tr.below hb h1 h2 h3, h.sep, fun p n hp => let ⟨l, hl, hh⟩ := h.row p n hp; ⟨l, hl.below hb, hh⟩, h.rsep⟩
end Go.Proofs.YtmbmahpklkcioaaDoor
