/- What one side takes of what another lets go. Plain lemmas. -/
import Derived.Test.YtajfaplaaafjiaaMxs
namespace Go.Proofs.Ytajfaplaaafjiaa
open Go.RowKit

def okT : (Nat → Ch) → List Fr → Prop
  | _, [] => True
  | D, f :: fs => (muT D f).1 = 0 ∧ okT (muT D f).2 fs
def aftT : (Nat → Ch) → List Fr → (Nat → Ch)
  | D, [] => D
  | D, f :: fs => aftT (muT D f).2 fs
theorem okT_app : ∀ (D : Nat → Ch) (a b : List Fr), okT D (a ++ b) ↔ okT D a ∧ okT (aftT D a) b
  | D, [], b => by simp [okT, aftT]
  | D, f :: a, b => by simp only [List.cons_append, okT, aftT]; rw [okT_app (muT D f).2 a b, and_assoc]
theorem aftT_app : ∀ (D : Nat → Ch) (a b : List Fr), aftT D (a ++ b) = aftT (aftT D a) b
  | D, [], b => rfl
  | D, f :: a, b => by simp only [List.cons_append, aftT]; exact aftT_app _ a b
theorem LimA.aft : ∀ {D : Nat → Ch} (fs : List Fr), LimA D → LimA (aftT D fs)
  | _, [], h => h
  | _, f :: fs, h => (h.muT f).aft fs
theorem okT_at {D : Nat → Ch} {fs : List Fr} {j : Nat} {f : Fr} (h : okT D fs) (hf : fs[j]? = some f) : (muT (aftT D (fs.take j)) f).1 = 0 ∧ aftT D (fs.take (j + 1)) = (muT (aftT D (fs.take j)) f).2 := by
  have e : fs = fs.take j ++ f :: fs.drop (j + 1) := by
    conv => lhs; rw [← List.take_append_drop j fs]
    rw [List.drop_eq_getElem?_toList_append, hf]
    rfl
  have e1 := h
  rw [e, okT_app] at e1
  refine ⟨e1.2.1, ?_⟩
  rw [List.take_add_one, hf, Option.toList_some, aftT_app]
  rfl

/-- What a side of a channel is behind what the other one's let go. -/
def rcv (c d : Ch) : Ch := { d with came := d.came ++ (sends c).1.flatten, room := d.room - (sends c).1.flatten.length, ended := d.ended || mustE (sends c).2 }
def rcvF (f : Nat) (c d : Ch) : Ch := { d with came := d.came ++ (sendsF f c).1.flatten, room := d.room - (sendsF f c).1.flatten.length }
theorem muT_data {D : Nat → Ch} {i : Nat} (hi : i < 4) {l : List UInt8} (h1 : (D i).ended = false) (h2 : l.length ≤ (D i).room) : muT D ((i : Int), l) = (0, upd D i (chTake (D i) l)) := by
  have e : takeE (D i) l.length = 0 := by unfold takeE; rw [h1, if_neg (by simp), if_neg (by omega)]
  unfold muT
  rw [if_neg (by simp only; omega), if_neg (by unfold badC; simp only; omega)]
  simp only [Int.toNat_natCast]
  rw [e, if_pos rfl]
theorem sendsF_flat : ∀ (f : Nat) (c : Ch), (sendsF f c).1.flatten.length + (sendsF f c).2.credit = c.credit
  | 0, c => by simp [sendsF]
  | f + 1, c => by
    rw [sendsF]
    split
    · have h := sendsF_flat f (chSend c (sendK c))
      have h1 := sendK_le c
      simp only [chSend] at h
      simp only [List.flatten_cons, List.length_append, List.length_take, chSend]
      omega
    · simp
theorem take_sends {i : Nat} (hi : i < 4) : ∀ (f : Nat) (c : Ch) (D : Nat → Ch), (D i).ended = false → c.credit ≤ (D i).room →
    okT D ((sendsF f c).1.map (fun b => ((i : Int), b))) ∧ aftT D ((sendsF f c).1.map (fun b => ((i : Int), b))) = upd D i (rcvF f c (D i))
  | 0, c, D, _, _ => ⟨trivial, by simp [sendsF, rcvF, aftT, upd_self]⟩
  | f + 1, c, D, h1, h2 => by
    by_cases hm : mayS c = true
    · have hk := sendK_le c
      have hl : (c.waits.take (sendK c)).length = sendK c := by rw [List.length_take]; omega
      have e := muT_data (D := D) hi (l := c.waits.take (sendK c)) h1 (by omega)
      have hn : upd D i (chTake (D i) (c.waits.take (sendK c))) i = chTake (D i) (c.waits.take (sendK c)) := upd_same _ _ _
      obtain ⟨k1, k2⟩ := take_sends hi f (chSend c (sendK c)) (upd D i (chTake (D i) (c.waits.take (sendK c)))) (by rw [hn]; exact h1) (by rw [hn]; simp only [chTake, chSend, hl]; omega)
      rw [sendsF_yes hm]
      simp only [List.map_cons, okT, aftT]
      rw [e]
      refine ⟨⟨rfl, k1⟩, ?_⟩
      rw [k2, upd_upd, hn]
      congr 1
      unfold rcvF
      rw [sendsF_yes hm]
      simp only [chTake, List.flatten_cons, List.append_assoc, List.length_append, hl]
      congr 1
      omega
    · rw [sendsF_no hm]
      refine ⟨trivial, ?_⟩
      unfold rcvF
      rw [sendsF_no hm]
      simp [aftT, upd_self]
theorem muT_end {D : Nat → Ch} {i : Nat} (hi : i < 4) (h : (D i).ended = false) : muT D (4, ctlB 2 i 0) = (0, upd D i (chEnd (D i))) := by
  have e1 : (UInt8.ofNat i).toNat = i := by simp; omega
  unfold muT
  rw [if_pos rfl]
  unfold ctlM ctlB
  rw [if_neg (by simp)]
  simp only [List.getD_cons_zero, List.getD_cons_succ, e1]
  rw [if_neg (by omega), if_neg (by decide), if_pos (by decide), h]
  simp
theorem take_outC {i : Nat} (hi : i < 4) {c : Ch} {D : Nat → Ch} (h0 : c.read = 0) (h1 : (D i).ended = false) (h2 : c.credit ≤ (D i).room) : okT D (outC i c).1 ∧ aftT D (outC i c).1 = upd D i (rcv c (D i)) := by
  obtain ⟨k1, k2⟩ := take_sends hi c.credit c D h1 h2
  have hr : (sends c).2.read = 0 := by rw [show (sends c).2.read = c.read from (sendsF_keep _ _).1, h0]
  unfold outC
  dsimp only
  simp only [hr, Nat.lt_irrefl, if_false, List.append_nil]
  by_cases hm : mustE (sends c).2 = true
  · rw [if_pos hm]
    have he : (upd D i (rcvF c.credit c (D i)) i).ended = false := by rw [upd_same]; exact h1
    have e := muT_end hi he
    constructor
    · rw [okT_app]
      refine ⟨k1, ?_⟩
      show okT (aftT D ((sendsF c.credit c).1.map _)) _
      rw [k2]
      exact ⟨by rw [e], trivial⟩
    · rw [aftT_app]
      show aftT (aftT D ((sendsF c.credit c).1.map _)) _ = _
      rw [k2]
      show (muT _ _).2 = _
      rw [e]
      show upd (upd D i _) i _ = _
      rw [upd_upd, upd_same]
      congr 1
      unfold rcv
      rw [hm, Bool.or_true]
      rfl
  · rw [if_neg hm, List.append_nil]
    refine ⟨k1, k2.trans ?_⟩
    congr 1
    unfold rcv
    rw [show mustE (sends c).2 = false by simpa using hm, Bool.or_false]
    rfl
theorem take_outM : ∀ (n : Nat), n ≤ 4 → ∀ (A D : Nat → Ch), (∀ i, i < 4 → (A i).read = 0 ∧ (D i).ended = false ∧ (A i).credit ≤ (D i).room) →
    okT D (outM n A).1 ∧ ∀ i, aftT D (outM n A).1 i = if i < n then rcv (A i) (D i) else D i
  | 0, _, A, D, _ => ⟨trivial, fun i => rfl⟩
  | n + 1, hn, A, D, h => by
    obtain ⟨k1, k2⟩ := take_outM n (by omega) A D h
    obtain ⟨h0, h1, h2⟩ := h n (by omega)
    have hA : (outM n A).2 n = A n := outM_later n A n (Nat.le_refl _)
    have hD : aftT D (outM n A).1 n = D n := by rw [k2, if_neg (by omega)]
    obtain ⟨q1, q2⟩ := take_outC (i := n) (by omega) (c := A n) (D := aftT D (outM n A).1) h0 (by rw [hD]; exact h1) (by rw [hD]; exact h2)
    rw [hD] at q2
    show okT D ((outM n A).1 ++ (outC n ((outM n A).2 n)).1) ∧ ∀ i, aftT D ((outM n A).1 ++ (outC n ((outM n A).2 n)).1) i = _
    rw [hA]
    refine ⟨(okT_app _ _ _).2 ⟨k1, q1⟩, fun i => ?_⟩
    rw [aftT_app, q2]
    by_cases e : i = n
    · subst e; rw [upd_same, if_pos (by omega)]
    · rw [upd_ne _ _ _ e, k2]
      by_cases e2 : i < n
      · rw [if_pos e2, if_pos (by omega)]
      · rw [if_neg e2, if_neg (by omega)]
theorem sendsF_closed : ∀ (f : Nat) (c : Ch), (sendsF f c).2.closed = c.closed ∧ (sendsF f c).2.told = c.told
  | 0, _ => ⟨rfl, rfl⟩
  | f + 1, c => by
    rw [sendsF]
    split
    · exact sendsF_closed f (chSend c (sendK c))
    · exact ⟨rfl, rfl⟩
/-- Little is let go at once. -/
theorem sends_small {c : Ch} (h1 : c.waits.length ≤ 512) (h2 : c.waits.length < c.credit) : (sends c).1.flatten = c.waits ∧ (sends c).2.waits = [] := by
  unfold sends
  by_cases h0 : c.waits = []
  · rw [sendsF_no (by rw [mayS_iff, h0]; simp)]
    exact ⟨by rw [h0]; rfl, h0⟩
  · have hp : 0 < c.waits.length := List.length_pos_iff.2 h0
    obtain ⟨f, hf⟩ : ∃ f, c.credit = f + 1 := ⟨c.credit - 1, by omega⟩
    have hk : sendK c = c.waits.length := by unfold sendK; omega
    rw [hf, sendsF_yes ((mayS_iff c).2 ⟨hp, by omega⟩), hk]
    have hm : ¬ mayS (chSend c c.waits.length) = true := by rw [mayS_iff]; simp [chSend]
    rw [sendsF_no hm]
    simp [chSend]

/-- Channels over which nothing came, and none is closed. -/
def Fresh (c : Ch) : Prop := c.credit = 1024 ∧ c.closed = false ∧ c.told = false ∧ c.read = 0
theorem Fresh.muW_ {C : Nat → Ch} (h : ∀ i, Fresh (C i)) (i : Int) (l : List UInt8) : ∀ j, Fresh ((muW C i l).2 j) := by
  intro j
  unfold muW
  split
  · exact h j
  · show Fresh (upd C i.toNat _ j)
    by_cases e : j = i.toNat
    · subst e
      rw [upd_same]
      split
      · exact h _
      · exact h _
    · rw [upd_ne _ _ _ e]; exact h j
theorem muW_other {C : Nat → Ch} {i : Int} {l : List UInt8} {j : Nat} (h : (j : Int) ≠ i) : (muW C i l).2 j = C j := by
  unfold muW
  split
  · rfl
  · rename_i hb
    show upd C i.toNat _ j = C j
    exact upd_ne _ _ _ (by unfold badC at hb; omega)
/-- All of MuxApart but its memory. -/
structure Apt (A : Nat → Ch) (c : Nat) (data : List UInt8) (A1 A2 : Nat → Ch) : Prop where
  wr : muW A (c : Int) data = (0, A1)
  cl : muC A1 (c : Int) = (0, A2)
  ok : okT c0A (outM 4 A2).1
  len : (aftT c0A (outM 4 A2).1 c).came = data
  en : (aftT c0A (outM 4 A2).1 c).ended = true
  no : ∀ i, i < 4 → i ≠ c → (aftT c0A (outM 4 A2).1 i).ended = false
theorem apt {A : Nat → Ch} {c : Nat} {data : List UInt8} (h : ∀ i, Fresh (A i)) (hc : c < 4) (hw : (A c).waits = []) (hd : data.length ≤ 500) :
    Apt A c data (upd A c (chWrite (A c) data)) (upd A c (chClose (chWrite (A c) data))) := by
  have hcl := (h c).2.1
  have hbad : ¬ badC (c : Int) := by unfold badC; omega
  have e1 : muW A (c : Int) data = (0, upd A c (chWrite (A c) data)) := by
    have e : writeE (A c) data.length = 0 := by unfold writeE; rw [hcl, hw, if_neg (by simp), if_neg (by simp; omega)]
    unfold muW
    rw [if_neg hbad]
    simp only [Int.toNat_natCast]
    rw [e, if_pos rfl]
  have e2 : muC (upd A c (chWrite (A c) data)) (c : Int) = (0, upd A c (chClose (chWrite (A c) data))) := by
    unfold muC
    rw [if_neg hbad]
    simp only [Int.toNat_natCast, upd_same, upd_upd]
    rw [show (chWrite (A c) data).closed = false from hcl]
    rfl
  have hr : ∀ i, i < 4 → (upd A c (chClose (chWrite (A c) data)) i).read = 0 ∧ (c0A i).ended = false ∧ (upd A c (chClose (chWrite (A c) data)) i).credit ≤ (c0A i).room := by
    intro i _
    by_cases e : i = c
    · subst e
      rw [upd_same]
      exact ⟨(h i).2.2.2, rfl, by show (A i).credit ≤ 1024; rw [(h i).1]; exact Nat.le_refl _⟩
    · rw [upd_ne _ _ _ e]
      exact ⟨(h i).2.2.2, rfl, by show (A i).credit ≤ 1024; rw [(h i).1]; exact Nat.le_refl _⟩
  obtain ⟨k1, k2⟩ := take_outM 4 (Nat.le_refl _) (upd A c (chClose (chWrite (A c) data))) c0A hr
  have hs := sends_small (c := chClose (chWrite (A c) data)) (by show ((A c).waits ++ data).length ≤ 512; rw [hw]; simp; omega) (by show ((A c).waits ++ data).length < (A c).credit; rw [hw, (h c).1]; simp; omega)
  have hcl2 := sendsF_closed (chClose (chWrite (A c) data)).credit (chClose (chWrite (A c) data))
  refine ⟨e1, e2, k1, ?_, ?_, fun i hi hne => ?_⟩
  · rw [k2, if_pos hc, upd_same]
    show [] ++ (sends (chClose (chWrite (A c) data))).1.flatten = data
    rw [hs.1]
    show [] ++ ((A c).waits ++ data) = data
    rw [hw]
    rfl
  · rw [k2, if_pos hc, upd_same]
    show (false || mustE (sends (chClose (chWrite (A c) data))).2) = true
    unfold mustE
    rw [hs.2]
    show (false || ((sendsF (chClose (chWrite (A c) data)).credit (chClose (chWrite (A c) data))).2.closed && !(sendsF (chClose (chWrite (A c) data)).credit (chClose (chWrite (A c) data))).2.told && _)) = true
    rw [hcl2.1, hcl2.2]
    show (false || (true && !(A c).told && _)) = true
    rw [(h c).2.2.1]
    rfl
  · rw [k2, if_pos hi, upd_ne _ _ _ hne]
    show (false || mustE (sends (A i)).2) = false
    have h3 := sendsF_closed (A i).credit (A i)
    unfold mustE
    show (false || ((sendsF (A i).credit (A i)).2.closed && _ && _)) = false
    rw [h3.1, (h i).2.1]
    rfl
theorem sendsF_body : ∀ (f : Nat) (c : Ch) {b : List UInt8}, b ∈ (sendsF f c).1 → b.length ≤ 512
  | 0, c, b, h => by simp [sendsF] at h
  | f + 1, c, b, h => by
    rw [sendsF] at h
    split at h
    · rcases List.mem_cons.1 h with e | e
      · subst e
        rw [List.length_take]
        have := sendK_le c
        omega
      · exact sendsF_body f _ e
    · simp at h
theorem outC_body {i : Nat} {c : Ch} {f : Fr} (hf : f ∈ (outC i c).1) : f.2.length ≤ 512 := by
  unfold outC at hf
  simp only [List.mem_append, List.mem_map] at hf
  rcases hf with (⟨b, hb, rfl⟩ | hf) | hf
  · exact sendsF_body _ _ hb
  · split at hf
    · simp at hf; subst hf; simp [ctlB]
    · simp at hf
  · split at hf
    · simp at hf; subst hf; simp [ctlB]
    · simp at hf
theorem outM_body : ∀ (n : Nat) (C : Nat → Ch) {f : Fr}, f ∈ (outM n C).1 → f.2.length ≤ 512
  | 0, _, f, h => by simp [outM] at h
  | n + 1, C, f, h => by
    rw [outM, List.mem_append] at h
    rcases h with h | h
    · exact outM_body n C h
    · exact outC_body h
end Go.Proofs.Ytajfaplaaafjiaa
