/- What a Mux keeps within; how many bytes it lets go. Plain lemmas. -/
import Derived.Test.YtajfaplaaafjiaaMxn
namespace Go.Proofs.Ytajfaplaaafjiaa
open Go.RowKit

section
variable {c : Ch} {l : List UInt8} {n k : Nat} {C : Nat → Ch}
theorem Lim.ch0 : Lim ch0 := ⟨by decide, by decide, by decide⟩
theorem Lim.write (h : Lim c) (hw : writeE c l.length = 0) : Lim (chWrite c l) := by
  refine ⟨?_, h.cr, h.rm⟩
  unfold writeE at hw
  simp only [chWrite, List.length_append]
  split at hw
  · simp at hw
  · split at hw
    · simp at hw
    · omega
theorem Lim.close (h : Lim c) : Lim (chClose c) := ⟨h.ws, h.cr, h.rm⟩
theorem Lim.end_ (h : Lim c) : Lim (chEnd c) := ⟨h.ws, h.cr, h.rm⟩
theorem Lim.more (h : Lim c) (hn : ¬ 1024 < c.credit + n) : Lim (chMore c n) := ⟨h.ws, by simp only [chMore]; omega, h.rm⟩
theorem takeE_0 (hw : takeE c n = 0) : c.ended = false ∧ n ≤ c.room := by
  unfold takeE at hw
  split at hw
  · simp at hw
  · split at hw
    · simp at hw
    · rename_i h1 h2
      exact ⟨by simpa using h1, by omega⟩
theorem Lim.take (h : Lim c) (hw : takeE c l.length = 0) : Lim (chTake c l) := by
  have := (takeE_0 hw).2
  have := h.rm
  exact ⟨h.ws, h.cr, by simp only [chTake, List.length_append]; omega⟩
theorem Lim.give (h : Lim c) (hk : k ≤ c.came.length) : Lim (chGive c k) := ⟨h.ws, h.cr, by have := h.rm; simp only [chGive, List.length_drop]; omega⟩
theorem Lim.bounds (h : Lim c) : c.credit ≤ 1024 ∧ c.came.length ≤ 4096 ∧ c.room ≤ 1024 ∧ c.read ≤ 1000000 ∧ c.waits.length ≤ 4096 := ⟨h.cr, by have := h.rm; omega, by have := h.rm; omega, by have := h.rm; omega, h.ws⟩

def LimA (C : Nat → Ch) : Prop := ∀ i, i < 4 → Lim (C i)
theorem LimA.new : LimA (fun _ => Go.Proofs.Ytajfaplaaafjiaa.ch0) := fun _ _ => Lim.ch0
theorem badC_lt {i : Int} (h : ¬ badC i) : i.toNat < 4 := by unfold badC at h; omega
theorem LimA.muW (h : LimA C) (i : Int) (l : List UInt8) : LimA (Go.Proofs.Ytajfaplaaafjiaa.muW C i l).2 := by
  unfold Go.Proofs.Ytajfaplaaafjiaa.muW
  split
  · exact h
  · rename_i hb
    refine Lim.upd_ h ?_
    split
    · rename_i e; exact (h _ (badC_lt hb)).write e
    · exact h _ (badC_lt hb)
theorem LimA.muC (h : LimA C) (i : Int) : LimA (Go.Proofs.Ytajfaplaaafjiaa.muC C i).2 := by
  unfold Go.Proofs.Ytajfaplaaafjiaa.muC
  split
  · exact h
  · rename_i hb
    exact Lim.upd_ h (h _ (badC_lt hb)).close
theorem LimA.muR (h : LimA C) (i most : Int) : LimA (Go.Proofs.Ytajfaplaaafjiaa.muR C i most).2 := by
  unfold Go.Proofs.Ytajfaplaaafjiaa.muR
  split
  · exact h
  · rename_i hb
    have hb1 : ¬ badC i := fun e => hb (.inl e)
    refine Lim.upd_ h ((h _ (badC_lt hb1)).give ?_)
    unfold rdK
    rw [if_neg hb]
    exact Nat.min_le_right _ _
theorem LimA.ctl (h : LimA C) (b : List UInt8) : LimA (ctlM C b).2 := by
  unfold ctlM
  split
  · exact h
  split
  · exact h
  rename_i h1
  have hx := h _ (Nat.lt_of_not_le h1)
  split
  · refine Lim.upd_ h ?_
    split
    · exact hx
    · rename_i e; exact hx.more e
  split
  · exact Lim.upd_ h hx.end_
  · exact h
theorem LimA.muT (h : LimA C) (f : Int × List UInt8) : LimA (Go.Proofs.Ytajfaplaaafjiaa.muT C f).2 := by
  unfold Go.Proofs.Ytajfaplaaafjiaa.muT
  split
  · exact h.ctl _
  split
  · exact h
  · rename_i hb
    refine Lim.upd_ h ?_
    split
    · rename_i e; exact (h _ (badC_lt hb)).take e
    · exact h _ (badC_lt hb)
theorem LimA.out (h : LimA C) : LimA (outM 4 C).2 := Lim.outM_ h 4 (Nat.le_refl _)
end

/-- How many bytes of a channel there are in frames. -/
def sentOf (k : Nat) : List Fr → Nat
  | [] => 0
  | f :: fs => (if f.1 = (k : Int) then f.2.length else 0) + sentOf k fs
theorem sentOf_app (k : Nat) : ∀ (a b : List Fr), sentOf k (a ++ b) = sentOf k a + sentOf k b
  | [], b => by simp [sentOf]
  | f :: a, b => by rw [List.cons_append, sentOf, sentOf, sentOf_app k a b]; omega
theorem sentOf_ne {k : Nat} : ∀ {fs : List Fr}, (∀ f ∈ fs, f.1 ≠ (k : Int)) → sentOf k fs = 0
  | [], _ => rfl
  | f :: fs, h => by rw [sentOf, if_neg (h f (List.mem_cons_self ..)), sentOf_ne (fun g hg => h g (List.mem_cons_of_mem _ hg))]
theorem sentOf_take_le (k : Nat) (fs : List Fr) (j : Nat) : sentOf k (fs.take j) ≤ sentOf k fs := by
  have h := sentOf_app k (fs.take j) (fs.drop j)
  rw [List.take_append_drop] at h
  omega
theorem muW_credit (C : Nat → Ch) (i : Int) (l : List UInt8) (k : Nat) : ((muW C i l).2 k).credit = (C k).credit := by
  unfold muW
  split
  · rfl
  · dsimp only
    by_cases e : k = i.toNat
    · subst e
      rw [upd_same]
      split <;> rfl
    · rw [upd_ne _ _ _ e]
theorem sendK_le (c : Ch) : sendK c ≤ c.credit ∧ sendK c ≤ c.waits.length ∧ sendK c ≤ 512 := by unfold sendK; omega
theorem sendsF_sent (k : Nat) : ∀ (f : Nat) (c : Ch), sentOf k ((sendsF f c).1.map (fun b => ((k : Int), b))) + (sendsF f c).2.credit = c.credit
  | 0, c => by simp [sendsF, sentOf]
  | f + 1, c => by
    rw [sendsF]
    split
    · have h := sendsF_sent k f (chSend c (sendK c))
      have h1 := sendK_le c
      simp only [chSend] at h
      simp only [List.map_cons, sentOf, if_pos, List.length_take, chSend]
      omega
    · simp [sentOf]
theorem outC_credit (i : Nat) (c : Ch) : (outC i c).2.credit = (sends c).2.credit := by
  unfold outC
  dsimp only
  split <;> split <;> rfl
theorem outC_sent {i : Nat} (hi : i < 4) (c : Ch) : sentOf i (outC i c).1 + (outC i c).2.credit = c.credit := by
  rw [outC_credit]
  have h1 := sendsF_sent i c.credit c
  have h2 : sentOf i (if mustE (sends c).2 = true then [((4 : Int), ctlB 2 i 0)] else []) = 0 := sentOf_ne (fun f hf => by split at hf <;> simp at hf; subst hf; simp; omega)
  have h3 : sentOf i (if 0 < (sends c).2.read then [((4 : Int), ctlB 1 i (sends c).2.read)] else []) = 0 := sentOf_ne (fun f hf => by split at hf <;> simp at hf; subst hf; simp; omega)
  unfold outC
  dsimp only
  rw [sentOf_app, sentOf_app, h2, h3]
  exact h1
theorem outC_chan {i : Nat} {c : Ch} {f : Fr} (hf : f ∈ (outC i c).1) : f.1 = (i : Int) ∨ f.1 = 4 := by
  unfold outC at hf
  simp only [List.mem_append, List.mem_map] at hf
  rcases hf with (⟨b, _, rfl⟩ | hf) | hf
  · exact .inl rfl
  · split at hf
    · simp at hf; subst hf; exact .inr rfl
    · simp at hf
  · split at hf
    · simp at hf; subst hf; exact .inr rfl
    · simp at hf
theorem outC_other {i k : Nat} (hk : k < 4) (h : k ≠ i) (c : Ch) : sentOf k (outC i c).1 = 0 := sentOf_ne (fun f hf => by rcases outC_chan hf with e | e <;> rw [e] <;> omega)
theorem outM_later : ∀ (n : Nat) (C : Nat → Ch) (k : Nat), n ≤ k → (outM n C).2 k = C k
  | 0, _, _, _ => rfl
  | n + 1, C, k, h => by
    show upd (outM n C).2 n _ k = C k
    rw [upd_ne _ _ _ (by omega), outM_later n C k (by omega)]
theorem outM_chan : ∀ (n : Nat) (C : Nat → Ch) {f : Fr}, f ∈ (outM n C).1 → (∃ i, i < n ∧ f.1 = (i : Int)) ∨ f.1 = 4
  | 0, _, f, h => by simp [outM] at h
  | n + 1, C, f, h => by
    rw [outM, List.mem_append] at h
    rcases h with h | h
    · exact (outM_chan n C h).imp (fun ⟨i, hi, e⟩ => ⟨i, by omega, e⟩) id
    · exact (outC_chan h).imp (fun e => ⟨n, by omega, e⟩) id
theorem outM_sent : ∀ (n : Nat), n ≤ 4 → ∀ (C : Nat → Ch) (k : Nat), k < 4 → sentOf k (outM n C).1 + ((outM n C).2 k).credit = (C k).credit
  | 0, _, C, k, _ => by simp [outM, sentOf]
  | n + 1, hn, C, k, hk => by
    have h1 := outM_sent n (by omega) C k hk
    show sentOf k ((outM n C).1 ++ (outC n ((outM n C).2 n)).1) + (upd (outM n C).2 n (outC n ((outM n C).2 n)).2 k).credit = (C k).credit
    rw [sentOf_app]
    by_cases e : k = n
    · subst e
      rw [upd_same]
      have h2 := outC_sent (show k < 4 by omega) ((outM k C).2 k)
      omega
    · rw [upd_ne _ _ _ e, outC_other hk e]
      omega
/-- What comes of a credit. -/
theorem muT_credit (C : Nat → Ch) {c n : Nat} (hc : c < 4) (hn : n < 65536) : muT C (4, [1, UInt8.ofNat c, UInt8.ofNat (n / 256), UInt8.ofNat (n % 256)]) =
    (if 1024 < (C c).credit + n then 101 else 0, upd C c (if 1024 < (C c).credit + n then C c else chMore (C c) n)) := by
  have e1 : (UInt8.ofNat c).toNat = c := by simp; omega
  have e2 : (UInt8.ofNat (n / 256)).toNat * 256 + (UInt8.ofNat (n % 256)).toNat = n := by simp; omega
  generalize UInt8.ofNat c = x at *
  generalize UInt8.ofNat (n / 256) = y at *
  generalize UInt8.ofNat (n % 256) = z at *
  subst e1 e2
  unfold muT
  rw [if_pos rfl]
  unfold ctlM
  rw [if_neg (show ¬ ([(1 : UInt8), x, y, z].length ≠ 4) by simp)]
  rw [if_neg (show ¬ (4 ≤ ([(1 : UInt8), x, y, z].getD 1 0).toNat) by show ¬ 4 ≤ x.toNat; omega)]
  rw [if_pos (show ([(1 : UInt8), x, y, z].getD 0 0).toNat = 1 from rfl)]
  rfl
end Go.Proofs.Ytajfaplaaafjiaa
