/- Frames in bytes: what is written, and what is read in whatever pieces. Plain lemmas, no program. -/
import Derived.Test.YtajfaplaaafjiaaLit
namespace Go.Proofs.Ytajfaplaaafjiaa

/-- A frame: its channel, its body. -/
abbrev Fr := Int × List UInt8
def frB (f : Fr) : List UInt8 := [UInt8.ofNat f.1.toNat, UInt8.ofNat (f.2.length / 256), UInt8.ofNat f.2.length] ++ f.2
/-- What Write answers: the bytes, or the number of the error. -/
def wrF (f : Fr) : List UInt8 × Int := if f.1 < 0 ∨ 4 < f.1 then ([], 100) else if 512 < f.2.length then ([], 23) else (frB f, 0)
/-- How long the body is to be. -/
def bodyN (b : List UInt8) : Nat := 256 * (b.getD 1 0).toNat + (b.getD 2 0).toNat
/-- The whole frames of bytes, what is left, the error that is met. -/
def scanF : Nat → List UInt8 → List Fr × List UInt8 × Int
  | 0, _ => ([], [], 0)
  | n + 1, b =>
    if b = [] then ([], [], 0)
    else if 4 < (b.headD 0).toNat then ([], [], 100)
    else if b.length < 3 then ([], b, 0)
    else if 512 < bodyN b then ([], [], 23)
    else if b.length < 3 + bodyN b then ([], b, 0)
    else ((((b.headD 0).toNat : Int), (b.drop 3).take (bodyN b)) :: (scanF n (b.drop (3 + bodyN b))).1, (scanF n (b.drop (3 + bodyN b))).2)
def scan (b : List UInt8) : List Fr × List UInt8 × Int := scanF (b.length + 1) b
/-- These bytes are a beginning of a frame, and no more. -/
def Inc (b : List UInt8) : Prop := b = [] ∨ ((b.headD 0).toNat ≤ 4 ∧ (b.length < 3 ∨ (bodyN b ≤ 512 ∧ b.length < 3 + bodyN b)))

theorem scanF_more : ∀ (n m : Nat) (b : List UInt8), b.length < n → b.length < m → scanF n b = scanF m b
  | 0, _, _, h, _ => by omega
  | _, 0, _, _, h => by omega
  | n + 1, m + 1, b, h1, h2 => by
    unfold scanF
    by_cases h0 : b = []
    · simp [h0]
    have hb : 0 < b.length := by cases b with | nil => exact absurd rfl h0 | cons _ _ => simp
    rw [if_neg h0, if_neg h0]
    by_cases h3 : 4 < (b.headD 0).toNat
    · rw [if_pos h3, if_pos h3]
    rw [if_neg h3, if_neg h3]
    by_cases h4 : b.length < 3
    · rw [if_pos h4, if_pos h4]
    rw [if_neg h4, if_neg h4]
    by_cases h5 : 512 < bodyN b
    · rw [if_pos h5, if_pos h5]
    rw [if_neg h5, if_neg h5]
    by_cases h6 : b.length < 3 + bodyN b
    · rw [if_pos h6, if_pos h6]
    rw [if_neg h6, if_neg h6]
    rw [scanF_more n m (b.drop (3 + bodyN b)) (by rw [List.length_drop]; omega) (by rw [List.length_drop]; omega)]
theorem scan_nil : scan [] = ([], [], 0) := rfl
theorem scan_chan {b : List UInt8} (h0 : b ≠ []) (h : 4 < (b.headD 0).toNat) : scan b = ([], [], 100) := by
  unfold scan scanF
  rw [if_neg h0, if_pos h]
theorem scan_long {b : List UInt8} (h0 : b ≠ []) (h : ¬ 4 < (b.headD 0).toNat) (h3 : 3 ≤ b.length) (h5 : 512 < bodyN b) : scan b = ([], [], 23) := by
  unfold scan scanF
  rw [if_neg h0, if_neg h, if_neg (by omega), if_pos h5]
theorem scan_inc {b : List UInt8} (h : Inc b) : scan b = ([], b, 0) := by
  unfold scan scanF
  rcases h with rfl | ⟨h1, h2⟩
  · rfl
  by_cases h0 : b = []
  · subst h0; rfl
  rw [if_neg h0, if_neg (by omega)]
  by_cases h3 : b.length < 3
  · rw [if_pos h3]
  rw [if_neg h3]
  obtain ⟨h4, h5⟩ := h2.resolve_left h3
  rw [if_neg (by omega), if_pos h5]
theorem scan_whole {b : List UInt8} (h : ¬ 4 < (b.headD 0).toNat) (h5 : ¬ 512 < bodyN b) (h6 : 3 + bodyN b ≤ b.length) :
    scan b = ((((b.headD 0).toNat : Int), (b.drop 3).take (bodyN b)) :: (scan (b.drop (3 + bodyN b))).1, (scan (b.drop (3 + bodyN b))).2) := by
  have h0 : b ≠ [] := by rintro rfl; simp at h6
  have hb : 0 < b.length := by omega
  conv => lhs; unfold scan scanF
  rw [if_neg h0, if_neg h, if_neg (by omega), if_neg h5, if_neg (by omega)]
  rw [scanF_more b.length ((b.drop (3 + bodyN b)).length + 1) (b.drop (3 + bodyN b)) (by rw [List.length_drop]; omega) (by omega)]
  rfl

theorem headD_app {a b : List UInt8} (h : a ≠ []) : (a ++ b).headD 0 = a.headD 0 := by cases a with | nil => exact absurd rfl h | cons _ _ => rfl
theorem bodyN_app {a b : List UInt8} (h : 3 ≤ a.length) : bodyN (a ++ b) = bodyN a := by
  unfold bodyN
  rw [List.getD_eq_getElem?_getD, List.getD_eq_getElem?_getD, List.getD_eq_getElem?_getD, List.getD_eq_getElem?_getD, List.getElem?_append_left (by omega), List.getElem?_append_left (by omega)]
theorem bodyN_lt (b : List UInt8) : bodyN b ≤ 65535 := by
  unfold bodyN
  have h1 := (b.getD 1 0).toNat_lt
  have h2 := (b.getD 2 0).toNat_lt
  omega
/-- What is left, and that no error was met ahead of it. -/
theorem scan_rest : ∀ (n : Nat) (b : List UInt8), b.length < n → (scan b).2.2 = 0 → Inc (scan b).2.1
  | 0, _, h, _ => by omega
  | n + 1, b, h, he => by
    by_cases h0 : b = []
    · subst h0; exact .inl rfl
    by_cases h3 : 4 < (b.headD 0).toNat
    · rw [scan_chan h0 h3] at he; exact absurd he (by decide)
    by_cases h4 : b.length < 3
    · have hi : Inc b := .inr ⟨by omega, .inl h4⟩
      rw [scan_inc hi]; exact hi
    by_cases h5 : 512 < bodyN b
    · rw [scan_long h0 h3 (by omega) h5] at he; exact absurd he (by decide)
    by_cases h6 : b.length < 3 + bodyN b
    · have hi : Inc b := .inr ⟨by omega, .inr ⟨by omega, h6⟩⟩
      rw [scan_inc hi]; exact hi
    · rw [scan_whole h3 h5 (by omega)] at he ⊢
      exact scan_rest n _ (by rw [List.length_drop]; omega) he
theorem scan_Inc {b : List UInt8} (he : (scan b).2.2 = 0) : Inc (scan b).2.1 := scan_rest _ b (Nat.lt_succ_self _) he
/-- In pieces. -/
theorem scan_appF : ∀ (n : Nat) (a b : List UInt8), a.length < n → (scan a).2.2 = 0 → scan (a ++ b) = ((scan a).1 ++ (scan ((scan a).2.1 ++ b)).1, (scan ((scan a).2.1 ++ b)).2)
  | 0, _, _, h, _ => by omega
  | n + 1, a, b, h, he => by
    by_cases h0 : a = []
    · subst h0; rw [scan_nil]; rfl
    by_cases h3 : 4 < (a.headD 0).toNat
    · rw [scan_chan h0 h3] at he; exact absurd he (by decide)
    by_cases h4 : a.length < 3
    · have hi : Inc a := .inr ⟨by omega, .inl h4⟩
      rw [scan_inc hi]; rfl
    by_cases h5 : 512 < bodyN a
    · rw [scan_long h0 h3 (by omega) h5] at he; exact absurd he (by decide)
    by_cases h6 : a.length < 3 + bodyN a
    · have hi : Inc a := .inr ⟨by omega, .inr ⟨by omega, h6⟩⟩
      rw [scan_inc hi]; rfl
    · have hs := scan_whole h3 h5 (by omega)
      rw [hs] at he ⊢
      have hbn : bodyN (a ++ b) = bodyN a := bodyN_app (by omega)
      have ih := scan_appF n (a.drop (3 + bodyN a)) b (by rw [List.length_drop]; omega) he
      have hd : (a ++ b).drop (3 + bodyN a) = a.drop (3 + bodyN a) ++ b := by rw [List.drop_append, show 3 + bodyN a - a.length = 0 by omega, List.drop_zero]
      have ht : ((a ++ b).drop 3).take (bodyN a) = (a.drop 3).take (bodyN a) := by
        rw [List.drop_append, show 3 - a.length = 0 by omega, List.drop_zero, List.take_append, List.length_drop, show bodyN a - (a.length - 3) = 0 by omega, List.take_zero, List.append_nil]
      rw [scan_whole (b := a ++ b) (by rw [headD_app h0]; exact h3) (by rw [hbn]; exact h5) (by rw [hbn, List.length_append]; omega), hbn, headD_app h0, hd, ht, ih]
      rfl
theorem scan_app {a : List UInt8} (b : List UInt8) (he : (scan a).2.2 = 0) : scan (a ++ b) = ((scan a).1 ++ (scan ((scan a).2.1 ++ b)).1, (scan ((scan a).2.1 ++ b)).2) := scan_appF _ a b (Nat.lt_succ_self _) he
/-- Behind an error it stays. -/
theorem scan_errF : ∀ (n : Nat) (a b : List UInt8), a.length < n → (scan a).2.2 ≠ 0 → (scan (a ++ b)).2 = ([], (scan a).2.2)
  | 0, _, _, h, _ => by omega
  | n + 1, a, b, h, he => by
    by_cases h0 : a = []
    · subst h0; exact absurd rfl he
    have h0' : a ++ b ≠ [] := by simp [h0]
    by_cases h3 : 4 < (a.headD 0).toNat
    · rw [scan_chan h0 h3, scan_chan h0' (by rw [headD_app h0]; exact h3)]
    by_cases h4 : a.length < 3
    · rw [scan_inc (.inr ⟨by omega, .inl h4⟩)] at he; exact absurd rfl he
    have hbn : bodyN (a ++ b) = bodyN a := bodyN_app (by omega)
    by_cases h5 : 512 < bodyN a
    · rw [scan_long h0 h3 (by omega) h5, scan_long h0' (by rw [headD_app h0]; exact h3) (by rw [List.length_append]; omega) (by rw [hbn]; exact h5)]
    by_cases h6 : a.length < 3 + bodyN a
    · rw [scan_inc (.inr ⟨by omega, .inr ⟨by omega, h6⟩⟩)] at he; exact absurd rfl he
    · have hs := scan_whole h3 h5 (by omega)
      rw [hs] at he ⊢
      have ih := scan_errF n (a.drop (3 + bodyN a)) b (by rw [List.length_drop]; omega) he
      have hd : (a ++ b).drop (3 + bodyN a) = a.drop (3 + bodyN a) ++ b := by rw [List.drop_append, show 3 + bodyN a - a.length = 0 by omega, List.drop_zero]
      rw [scan_whole (b := a ++ b) (by rw [headD_app h0]; exact h3) (by rw [hbn]; exact h5) (by rw [hbn, List.length_append]; omega), hbn, hd, ih]
theorem scan_err {a : List UInt8} (b : List UInt8) (he : (scan a).2.2 ≠ 0) : (scan (a ++ b)).2 = ([], (scan a).2.2) := scan_errF _ a b (Nat.lt_succ_self _) he
theorem scan_zero : ∀ (n : Nat) (a : List UInt8), a.length < n → (scan a).2.2 = 0 ∨ ((scan a).2.2 = 100 ∨ (scan a).2.2 = 23) ∧ (scan a).2.1 = []
  | 0, _, h => by omega
  | n + 1, a, h => by
    by_cases h0 : a = []
    · subst h0; exact .inl rfl
    by_cases h3 : 4 < (a.headD 0).toNat
    · rw [scan_chan h0 h3]; exact .inr ⟨.inl rfl, rfl⟩
    by_cases h4 : a.length < 3
    · rw [scan_inc (.inr ⟨by omega, .inl h4⟩)]; exact .inl rfl
    by_cases h5 : 512 < bodyN a
    · rw [scan_long h0 h3 (by omega) h5]; exact .inr ⟨.inr rfl, rfl⟩
    by_cases h6 : a.length < 3 + bodyN a
    · rw [scan_inc (.inr ⟨by omega, .inr ⟨by omega, h6⟩⟩)]; exact .inl rfl
    · rw [scan_whole h3 h5 (by omega)]
      exact scan_zero n _ (by rw [List.length_drop]; omega)
theorem scan_left : ∀ (n : Nat) (a : List UInt8), a.length < n → (scan a).2.1.length ≤ a.length
  | 0, _, h => by omega
  | n + 1, a, h => by
    by_cases h0 : a = []
    · subst h0; exact Nat.le_refl _
    by_cases h3 : 4 < (a.headD 0).toNat
    · rw [scan_chan h0 h3]; exact Nat.zero_le _
    by_cases h4 : a.length < 3
    · rw [scan_inc (.inr ⟨by omega, .inl h4⟩)]; exact Nat.le_refl _
    by_cases h5 : 512 < bodyN a
    · rw [scan_long h0 h3 (by omega) h5]; exact Nat.zero_le _
    by_cases h6 : a.length < 3 + bodyN a
    · rw [scan_inc (.inr ⟨by omega, .inr ⟨by omega, h6⟩⟩)]; exact Nat.le_refl _
    · rw [scan_whole h3 h5 (by omega)]
      have := scan_left n (a.drop (3 + bodyN a)) (by rw [List.length_drop]; omega)
      rw [List.length_drop] at this
      show (scan (a.drop (3 + bodyN a))).2.1.length ≤ a.length
      omega
/-- What was written is read. -/
theorem scan_frB {f : Fr} (h1 : 0 ≤ f.1 ∧ f.1 ≤ 4) (h2 : f.2.length ≤ 512) (b : List UInt8) : scan (frB f ++ b) = (f :: (scan b).1, (scan b).2) := by
  obtain ⟨c, l⟩ := f
  simp only at h1 h2
  have hn : bodyN (frB (c, l) ++ b) = l.length := by
    simp [bodyN, frB]
    omega
  have hh : (frB (c, l) ++ b).headD 0 = UInt8.ofNat c.toNat := rfl
  have hc : (UInt8.ofNat c.toNat).toNat = c.toNat := by simp; omega
  have hd : (frB (c, l) ++ b).drop 3 = l ++ b := rfl
  rw [scan_whole (by rw [hh, hc]; omega) (by rw [hn]; omega) (by rw [hn]; simp [frB]; omega), hn, hh, hc, hd, List.take_left, ← List.drop_drop, hd, List.drop_left]
  rw [show ((c.toNat : Nat) : Int) = c by omega]
end Go.Proofs.Ytajfaplaaafjiaa
