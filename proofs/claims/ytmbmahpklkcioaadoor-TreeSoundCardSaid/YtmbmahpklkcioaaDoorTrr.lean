/- A node put into a Tree, a node's data set. Plain lemmas. -/
import Derived.Test.YtmbmahpklkcioaaDoorTrq
namespace Go.Proofs.YtmbmahpklkcioaaDoor
open Go.RowKit Go.Maps Go.WideMaps

section
variable {w w' : World} {base : Nat} {e : TypeId} {v : Value} {l : List UInt8}
theorem OwnB.ne_map (h : OwnB w base e v l) {g : Nat} {es : Array MapEntry} {cl : Nat} (hg : w.heap[g]? = some (.map es cl)) : v.ownBlock ≠ some g := by
  rcases h.2 with ⟨rfl, _⟩ | ⟨g', _, _, rfl, _, hg', _⟩
  · simp [Value.ownBlock]
  · intro he
    have : g' = g := by simpa [Value.ownBlock] using he
    subst this
    rw [hg] at hg'
    cases hg'
theorem MT.block {P : Program} {k : TypeId} {α β : Type} {kv : α → Value} {vv : β → Value} {w : World} {b : Nat} {M : List (α × β)} (h : MT P k kv vv w b M) : ∃ es cl, w.heap[b]? = some (.map es cl) := by
  obtain ⟨_, es, clock, hm, _⟩ := h
  exact ⟨es, clock, hm⟩
theorem CB.ne_map {g b : Nat} {t : TypeId} {cs : List Value} (h : CB w g t cs) {es : Array MapEntry} {cl : Nat} (hb : w.heap[b]? = some (.map es cl)) : g ≠ b := by
  intro e
  subst e
  have := hb.symm.trans h
  injection this with this
  cases this
end
/-- A node is put where there is none. -/
theorem TS.put {w w' : World} {tb mb : Nat} {M : List (List UInt8 × Nd)} (h : TS w tb mb M) {p : List UInt8} {nd : Nd} (hp : M.lookup p = none)
    (hm : MT Tryd.prog 9 kS vN w' mb (M ++ [(p, nd)])) (hg : w.grownBy w' (some mb)) (hC : CB w nd.blk 42 (nodeC ⟨p.toArray⟩ nd.dir nd.owner nd.mode nd.data)) (hmode : nd.mode < 64)
    (hne : ∀ q n, (q, n) ∈ M → n.blk ≠ nd.blk) {l : List UInt8} (ho : OwnB w 0 5 nd.data l) (hl : l.length ≤ 1000000) (hr : ∀ q n k, (q, n) ∈ M → n.data.ownBlock = some k → nd.data.ownBlock ≠ some k) : TS w' tb mb (M ++ [(p, nd)]) := by
  obtain ⟨es, cl, hmb⟩ := h.tr.map.block
  have htb : CB w tb 53 [.map (some mb)] := h.tr.top
  have mem : ∀ {q n}, (q, n) ∈ M ++ [(p, nd)] → (q, n) ∈ M ∨ (q = p ∧ n = nd) := by
    intro q n hq
    rcases List.mem_append.1 hq with hq | hq
    · exact .inl hq
    · rw [List.mem_singleton] at hq
      injection hq with h1 h2
      exact .inr ⟨h1, h2⟩
  have hout : ∀ n, (p, n) ∉ M := fun n hn => lookup_out hp (mem_keysM.2 ⟨n, hn⟩)
  refine ⟨⟨htb.grown hg (htb.ne_map hmb), hm, fun q n hq => ?_⟩, fun q n q' n' hq hq' he => ?_, fun q n hq => ?_, fun q n q' n' k hq hq' hk hk' => ?_⟩
  · rcases mem hq with hq | ⟨rfl, rfl⟩
    · exact ⟨(h.tr.nodes q n hq).1.grown hg ((h.tr.nodes q n hq).1.ne_map hmb), (h.tr.nodes q n hq).2⟩
    · exact ⟨hC.grown hg (hC.ne_map hmb), hmode⟩
  · rcases mem hq with i1 | ⟨rfl, rfl⟩ <;> rcases mem hq' with i2 | ⟨rfl, rfl⟩
    · exact h.sep _ _ _ _ i1 i2 he
    · exact absurd he (hne _ _ i1)
    · exact absurd he.symm (hne _ _ i2)
    · rfl
  · rcases mem hq with hq | ⟨rfl, rfl⟩
    · obtain ⟨l', h1, h2⟩ := h.row q n hq
      exact ⟨l', World.ownsRow.kept h1 hg (.inr (h1.ne_map hmb)), h2⟩
    · exact ⟨l, World.ownsRow.kept ho hg (.inr (ho.ne_map hmb)), hl⟩
  · rcases mem hq with i1 | ⟨rfl, rfl⟩ <;> rcases mem hq' with i2 | ⟨rfl, rfl⟩
    · exact h.rsep _ _ _ _ k i1 i2 hk hk'
    · exact absurd hk' (hr _ _ k i1 hk)
    · exact absurd hk (hr _ _ k i2 hk')
    · rfl
/-- A node's data are set where it lies. -/
theorem TS.data {w : World} {tb mb : Nat} {M : List (List UInt8 × Nd)} (h : TS w tb mb M) {p : List UInt8} {n : Nd} (hin : (p, n) ∈ M) (v : Value) {l : List UInt8} (ho : OwnB w 0 5 v l) (hl : l.length ≤ 1000000) (hr : ∀ q n' k, (q, n') ∈ M → n'.data.ownBlock = some k → v.ownBlock ≠ some k) :
    TS (w.setCell ⟨n.blk, 4, none⟩ v) tb mb (turn p (fun x => { x with data := v }) M) := by
  have hfar (k : Nat) (hk : k ≠ n.blk) : (w.setCell ⟨n.blk, 4, none⟩ v).heap[k]? = w.heap[k]? := Below.heap_setCell w ⟨n.blk, 4, none⟩ _ k hk
  have hne := h.tr.tb_ne hin
  have hgr : w.grownBy (w.setCell ⟨n.blk, 4, none⟩ v) (some n.blk) := grownC_set _ _ _ _
  refine ⟨⟨(hfar _ hne.1).trans h.tr.top, ?_, ?_⟩, ?_, ?_, ?_⟩
  · obtain ⟨hf, es, clock, hmb, F⟩ := h.tr.map
    exact MT.turn (w := w.setCell ⟨n.blk, 4, none⟩ v) ⟨hf, es, clock, (hfar _ hne.2).trans hmb, F⟩ p _ (fun _ => rfl)
  · intro q n1 h1
    obtain ⟨m, hmm, ⟨rfl, rfl⟩ | ⟨hq, rfl⟩⟩ := mem_turn h1
    · obtain rfl := nodup_one h.tr.map.1.1 hin hmm
      exact ⟨(h.tr.nodes _ _ hin).1.set_ 4 _, (h.tr.nodes _ _ hin).2⟩
    · exact ⟨(h.tr.nodes _ _ hmm).1.far (p := ⟨n.blk, 4, none⟩) (fun e => hq (h.sep _ _ _ _ hmm hin e)) _, (h.tr.nodes _ _ hmm).2⟩
  · intro q1 n1 q2 n2 h1 h2 he
    obtain ⟨m1, hm1, e1⟩ := mem_turn h1
    obtain ⟨m2, hm2, e2⟩ := mem_turn h2
    refine h.sep q1 m1 q2 m2 hm1 hm2 ?_
    rcases e1 with ⟨_, rfl⟩ | ⟨_, rfl⟩ <;> rcases e2 with ⟨_, rfl⟩ | ⟨_, rfl⟩ <;> exact he
  · intro q n1 h1
    obtain ⟨m, hmm, e1⟩ := mem_turn h1
    rcases e1 with ⟨_, rfl⟩ | ⟨_, rfl⟩
    · exact ⟨l, World.ownsRow.kept ho hgr (.inr (ho.ne_cells (h.tr.nodes _ _ hin).1 (by decide))), hl⟩
    · obtain ⟨l', hl', hlen⟩ := h.row q n1 hmm
      exact ⟨l', World.ownsRow.kept hl' hgr (.inr (hl'.ne_cells (h.tr.nodes _ _ hin).1 (by decide))), hlen⟩
  · intro q1 n1 q2 n2 k h1 h2 k1 k2
    obtain ⟨m1, hm1, e1⟩ := mem_turn h1
    obtain ⟨m2, hm2, e2⟩ := mem_turn h2
    rcases e1 with ⟨a1, rfl⟩ | ⟨a1, rfl⟩ <;> rcases e2 with ⟨a2, rfl⟩ | ⟨a2, rfl⟩
    · rw [a1, a2]
    · exact absurd k1 (hr _ _ k hm2 k2)
    · exact absurd k2 (hr _ _ k hm1 k1)
    · exact h.rsep q1 n1 q2 n2 k hm1 hm2 k1 k2
end Go.Proofs.YtmbmahpklkcioaaDoor
