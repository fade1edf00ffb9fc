/- The walk of the Hasher's Add. -/
import Derived.Test.YtndnmjolcilamaaDoorMx
namespace Go.Proofs.YtndnmjolcilamaaDoor
open Go.RowKit

def patch (l : List UInt8) (off : Nat) (p : List UInt8) : List UInt8 := l.take off ++ p ++ l.drop (off + p.length)
theorem patch_length (l : List UInt8) (off : Nat) (p : List UInt8) (h : off + p.length ≤ l.length) : (patch l off p).length = l.length := by
  rw [patch, List.length_append, List.length_append, List.length_take, List.length_drop]; omega
theorem patch_nil (l : List UInt8) (off : Nat) : patch l off [] = l := by simp [patch]
theorem patch_snoc (l : List UInt8) (off : Nat) (p : List UInt8) (b : UInt8) (h : off + p.length < l.length) : patch l off (p ++ [b]) = (patch l off p).set (off + p.length) b := by
  have h1 : (l.take off ++ p).length = off + p.length := by rw [List.length_append, List.length_take]; omega
  rw [patch, patch, List.set_append_right _ _ (by rw [h1]; exact Nat.le_refl _), h1, Nat.sub_self, List.length_append, List.length_singleton, ← Nat.add_assoc]
  rw [List.drop_eq_getElem_cons h, List.set_cons_zero, List.append_assoc, List.append_assoc, List.append_assoc]
  rfl

/-- A Hasher: its words, its block, the number of bytes that came. -/
structure HSt where
  (ws : List UInt32) (bl : List UInt8) (c : Nat)
def HSt.put (s : HSt) (b : UInt8) : HSt :=
  if (s.c + 1) % 64 = 0 then ⟨compress s.ws (s.bl.set (s.c % 64) b), s.bl.set (s.c % 64) b, s.c + 1⟩ else ⟨s.ws, s.bl.set (s.c % 64) b, s.c + 1⟩
def HSt.adds (s : HSt) (l : List UInt8) : HSt := l.foldl HSt.put s
theorem adds_append (s : HSt) (a b : List UInt8) : s.adds (a ++ b) = (s.adds a).adds b := List.foldl_append ..
theorem rev_ind {α : Type} {p : List α → Prop} (h0 : p []) (h1 : ∀ l b, p l → p (l ++ [b])) : ∀ l, p l := by
  have h : ∀ (n : Nat) (l : List α), l.length = n → p l := by
    intro n
    induction n with
    | zero => intro l hl; rw [List.eq_nil_of_length_eq_zero hl]; exact h0
    | succ n ih =>
      intro l hl
      have hne : l ≠ [] := fun e => by rw [e] at hl; simp at hl
      rw [← List.dropLast_concat_getLast hne]
      exact h1 _ _ (ih _ (by rw [List.length_dropLast]; omega))
  exact fun l => h _ l rfl
theorem adds_some (s : HSt) (hb : s.bl.length = 64) (p : List UInt8) : s.c % 64 + p.length < 64 → s.adds p = ⟨s.ws, patch s.bl (s.c % 64) p, s.c + p.length⟩ := by
  refine rev_ind (p := fun p => s.c % 64 + p.length < 64 → s.adds p = ⟨s.ws, patch s.bl (s.c % 64) p, s.c + p.length⟩) ?_ ?_ p
  · intro _; rw [patch_nil]; rfl
  · intro p b ih h
    rw [List.length_append, List.length_singleton] at h
    rw [adds_append, ih (by omega), patch_snoc _ _ _ _ (by omega)]
    show HSt.put _ b = _
    rw [HSt.put]
    simp only
    rw [if_neg (by omega), show (s.c + p.length) % 64 = s.c % 64 + p.length by omega, List.length_append, List.length_singleton, Nat.add_assoc]
theorem adds_full (s : HSt) (hb : s.bl.length = 64) (p : List UInt8) (h : s.c % 64 + p.length = 64) : s.adds p = ⟨compress s.ws (patch s.bl (s.c % 64) p), patch s.bl (s.c % 64) p, s.c + p.length⟩ := by
  have hp : p ≠ [] := fun e => by rw [e] at h; simp at h; omega
  obtain ⟨q, b, rfl⟩ : ∃ q b, p = q ++ [b] := ⟨p.dropLast, p.getLast hp, (List.dropLast_concat_getLast hp).symm⟩
  rw [List.length_append, List.length_singleton] at h
  rw [adds_append, adds_some s hb q (by omega), patch_snoc _ _ _ _ (by omega)]
  show HSt.put _ b = _
  rw [HSt.put]
  simp only
  rw [if_pos (by omega), show (s.c + q.length) % 64 = s.c % 64 + q.length by omega, List.length_append, List.length_singleton, Nat.add_assoc]

theorem bcells_take (l : List UInt8) (n : Nat) : bcells (l.take n) = (bcells l).take n := by simp [bcells, List.map_take]
theorem bcells_drop (l : List UInt8) (n : Nat) : bcells (l.drop n) = (bcells l).drop n := by simp [bcells, List.map_drop]
theorem hcells_over {ws : List UInt32} {bl : List UInt8} {c : Nat} (hw : ws.length = 8) (hb : bl.length = 64) (off : Nat) (p : List UInt8) (h : off + p.length ≤ 64) :
    over (hcells ws bl c) (8 + off) (bcells p) = hcells ws (patch bl off p) c := by
  have hwl : (wcells ws).length = 8 := by rw [wcells_length, hw]
  have h1 : (hcells ws bl c).take (8 + off) = wcells ws ++ (bcells bl).take off := by
    rw [hcells, List.append_assoc, List.take_append, List.take_of_length_le (by omega), hwl, Nat.add_sub_cancel_left, List.take_append_of_le_length (by rw [bcells_length]; omega)]
  have h2 : (hcells ws bl c).drop (8 + off + (bcells p).length) = (bcells bl).drop (off + p.length) ++ [.int .u64 (c : Int)] := by
    rw [hcells, List.append_assoc, List.drop_append, List.drop_eq_nil_of_le (by omega), List.nil_append, hwl, bcells_length, show 8 + off + p.length - 8 = off + p.length by omega, List.drop_append_of_le_length (by rw [bcells_length]; omega)]
  rw [over, h1, h2, hcells, patch, bcells_append, bcells_append, bcells_take, bcells_drop]
  simp only [List.append_assoc]

/-- A slice that reads as these bytes, none of them in block g. -/
def RN (w : World) (g : Nat) (A : Option Addr) (l : List UInt8) (cap : Nat) : Prop :=
  l.length ≤ cap ∧ cap ≤ maxLen ∧ (0 < l.length → ∃ b off, A = some ⟨b, off, none⟩ ∧ b ≠ g ∧ ∀ k u, l[k]? = some u → w.cell? ⟨b, off + k, none⟩ = some (.int .u8 (u.toNat : Int)))
theorem RN.of_RB {w : World} {B g : Nat} {A : Option Addr} {l : List UInt8} {cap : Nat} (h : RB w B A l cap) (hg : B ≤ g) : RN w g A l cap :=
  ⟨h.1, h.2.1, fun hp => by
    obtain ⟨b, off, hA, hb, hc⟩ := h.open_ hp
    refine ⟨b, off, hA, by omega, fun k u hu => ?_⟩
    have hk : k < l.length := (List.getElem?_eq_some_iff.1 hu).1
    rw [hc k hk]
    rw [List.getElem?_eq_getElem hk] at hu
    injection hu with hu
    rw [hu]⟩
theorem RN.grown {w w' : World} {g : Nat} {A : Option Addr} {l : List UInt8} {cap : Nat} (h : RN w g A l cap) (hg : w.grownBy w' (some g)) : RN w' g A l cap :=
  ⟨h.1, h.2.1, fun hp => by
    obtain ⟨b, off, hA, hb, hc⟩ := h.2.2 hp
    refine ⟨b, off, hA, hb, fun k u hu => ?_⟩
    have hx := hc k u hu
    exact (World.cell?_of_block (hg.block b (World.block_lt_of_cell? w _ hx) (fun e => hb (by injection e)))).trans hx⟩
theorem RN.drew' {w : World} {g : Nat} {A : Option Addr} {l : List UInt8} {cap : Nat} (h : RN w g A l cap) : RN w.drew g A l cap := h
theorem RN.cut {w : World} {g b off : Nat} {l : List UInt8} {cap k : Nat} (h : RN w g (some ⟨b, off, none⟩) l cap) (hk : k ≤ l.length) : RN w g (if cap = k then some ⟨b, off, none⟩ else some ⟨b, off + k, none⟩) (l.drop k) (cap - k) := by
  have h1 := h.1
  refine ⟨by rw [List.length_drop]; omega, by have := h.2.1; omega, fun hp => ?_⟩
  rw [List.length_drop] at hp
  rw [if_neg (by omega)]
  obtain ⟨b', off', hA, hb, hc⟩ := h.2.2 (by omega)
  injection hA with hA
  injection hA with e1 e2
  subst e1 e2
  refine ⟨b, off + k, rfl, hb, fun j u hu => ?_⟩
  rw [List.getElem?_drop] at hu
  rw [Nat.add_assoc]
  exact hc _ u hu
theorem RN.nil {w : World} {g : Nat} {A : Option Addr} {cap : Nat} (h : cap ≤ maxLen) : RN w g A [] cap := ⟨Nat.zero_le _, h, fun hp => absurd hp (by simp)⟩

theorem szU64 : (Tryd.prog.info? 24).map (·.size) = some 1 := by kernel_rfl
theorem compress_len (s : HSt) (l : List UInt8) (hw : s.ws.length = 8) (hb : s.bl.length = 64) : (s.adds l).ws.length = 8 ∧ (s.adds l).bl.length = 64 ∧ (s.adds l).c = s.c + l.length := by
  induction l generalizing s with
  | nil => exact ⟨hw, hb, rfl⟩
  | cons b l ih =>
    have h : (s.put b).ws.length = 8 ∧ (s.put b).bl.length = 64 ∧ (s.put b).c = s.c + 1 := by
      rw [HSt.put]
      split
      · exact ⟨compress_length _ _, by rw [List.length_set]; exact hb, rfl⟩
      · exact ⟨hw, by rw [List.length_set]; exact hb, rfl⟩
    have hi := ih (s.put b) h.1 h.2.1
    refine ⟨hi.1, hi.2.1, ?_⟩
    show ((s.put b).adds l).c = _
    rw [hi.2.2, h.2.2, List.length_cons]
    omega

set_option maxRecDepth 10000 in
set_option maxHeartbeats 1000000 in
theorem add_any (g n cap : Nat) (s : HSt) (A : Option Addr) (l : List UInt8) (w : World) (hT : TB w) (hg0 : g ≠ 0) (hw : s.ws.length = 8) (hb : s.bl.length = 64) (hn : l.length = n) (hc : s.c + n < 1152921504606846976)
    (h : CB w g 109 (hcells s.ws s.bl s.c)) (hA : RN w g A l cap) :
    Calls Tryd.prog 58 #[.pointer (some ⟨g, 0, none⟩), .slice A n cap] w fun e w' => e = .returned (.tuple #[]) ∧ CB w' g 109 (hcells (s.adds l).ws (s.adds l).bl (s.adds l).c) ∧ w.grownBy w' (some g) := by
  have HT := Lib.hid hT
  have HG0 := Lib.hid hg0
  have HWL := Lib.hid hw
  have HBL := Lib.hid hb
  have HN := Lib.hid hn
  have HC := Lib.hid hc
  have H := Lib.hid h
  have HA := Lib.hid hA
  clear hT hg0 hw hb hn hc h hA
  obtain ⟨F, hF⟩ : ∃ F, F = s.adds l := ⟨_, rfl⟩
  rw [← hF]
  have HF := Lib.hid hF
  clear hF
  go_enter Tryd.func58, Tryd.ntmps58
  go_wp2
  go_loopw [1] (fun b wr => ∃ (r : List UInt8) (X : Option Addr) (m k : Nat) (z : HSt), b = .slice X m k ∧ r.length = m ∧ RN wr g X r k ∧ z.adds r = F ∧ z.ws.length = 8 ∧ z.bl.length = 64 ∧ z.c + m = s.c + n ∧ CB wr g 109 (hcells z.ws z.bl z.c) ∧ w.grownBy wr (some g)) (fun b _ => match b with | .slice _ m _ => m | _ => 0)
  case atStart => exact ⟨l, A, n, cap, s, rfl, HN.out, HA.out, HF.out.symm, HWL.out, HBL.out, rfl, H.out, World.grownBy.refl _ _⟩
  case round =>
    obtain ⟨r, X, m, k, z, rfl, hm, hX, hz, hw, hb, hc, hC, hG⟩ := hrel
    by_cases hp : 0 < m
    · obtain ⟨b, off, rfl, hbg, hcell⟩ := hX.2.2 (by omega)
      obtain ⟨d, hd⟩ : ∃ d, d = z.c % 64 := ⟨_, rfl⟩
      obtain ⟨q, hq⟩ : ∃ q, q = Nat.min m (64 - d) := ⟨_, rfl⟩
      obtain ⟨c2, hc2⟩ : ∃ c2, c2 = z.c + q := ⟨_, rfl⟩
      obtain ⟨d2, hd2⟩ : ∃ d2, d2 = c2 % 64 := ⟨_, rfl⟩
      have hqm : q ≤ m := by rw [hq]; exact Nat.min_le_left _ _
      have hqd : q ≤ 64 - d := by rw [hq]; exact Nat.min_le_right _ _
      have hq0 : 0 < q := by rw [hq]; exact Nat.lt_min.2 ⟨hp, by omega⟩
      have hCC := HC.out
      have hpl : (r.take q).length = q := by rw [List.length_take]; omega
      have hov := hcells_over (c := z.c) hw hb d (r.take q) (by rw [hpl]; omega)
      have hlen : (hcells z.ws z.bl z.c).length = 73 := hcells_length hw hb
      have hcnt := hC.at_ (hcells_count hw hb)
      have hpat : (patch z.bl d (r.take q)).length = 64 := by rw [patch_length _ _ _ (by rw [hpl, hb]; omega), hb]
      have hsrc : ∀ j v, (bcells (r.take q))[j]? = some v → wr.drew.cell? ((⟨b, off, none⟩ : Addr).add j) = some v := fun j v hv => by
        rw [bcells_at] at hv
        obtain ⟨u, hu, rfl⟩ := Option.map_eq_some_iff.1 hv
        have hj : j < q := by rw [← hpl]; exact (List.getElem?_eq_some_iff.1 hu).1
        rw [List.getElem?_take_of_lt hj] at hu
        rw [Addr.add_lit]
        exact hcell j u hu
      have hrest : z.adds r = (z.adds (r.take q)).adds (r.drop q) := by rw [← adds_append, List.take_append_drop]
      have w1 : (z.c : Int).tmod 64 = (d : Int) := by rw [Int.tmod_eq_emod_of_nonneg (by omega)]; omega
      have b1 : (d : Int) ≤ 64 := by omega
      have b2 : ¬ (64 = d) := by omega
      have b3 : (d : Int) < 64 := by omega
      have w2 : IntKind.u64.wrap (q : Int) = (q : Int) := by rw [show ∀ y, IntKind.u64.wrap y = y % 18446744073709551616 from fun _ => rfl]; omega
      have w3 : IntKind.u64.wrap ((z.c : Int) + (q : Int)) = (c2 : Int) := by rw [show ∀ y, IntKind.u64.wrap y = y % 18446744073709551616 from fun _ => rfl]; omega
      have w4 : (c2 : Int).tmod 64 = (d2 : Int) := by rw [Int.tmod_eq_emod_of_nonneg (by omega)]; omega
      have b4 : (q : Int) ≤ (m : Int) := by omega
      have hmi : (0 : Int) < (m : Int) := by omega
      obtain ⟨B, hB⟩ : ∃ B, B = patch z.bl d (r.take q) := ⟨_, rfl⟩
      rw [← hB] at hov hpat
      have hfin : (z.adds (r.take q)) = if d2 = 0 then ⟨compress z.ws B, B, c2⟩ else ⟨z.ws, B, c2⟩ := by
        split
        · rw [adds_full z hb _ (by rw [hpl]; omega), hpl, ← hd, ← hB, ← hc2]
        · rw [adds_some z hb _ (by rw [hpl]; omega), hpl, ← hd, ← hB, ← hc2]
      have HFIN := Lib.hid hfin
      have HPAT := Lib.hid hpat
      have HREST := Lib.hid (show (z.adds (r.take q)).adds (r.drop q) = F by rw [← hrest, hz])
      have HRL := Lib.hid (show (r.drop q).length = m - q by rw [List.length_drop, hm])
      have HCS := Lib.hid (show c2 + (m - q) = s.c + n by omega)
      have hmk := hX.1
      rw [hm] at hmk
      have HCUT := Lib.hid (RN.cut hX (k := q) (by rw [hm]; exact hqm))
      have HQ := Lib.hid hq
      have HQD := Lib.hid hqd
      have HM := Lib.hid hm
      have HX := Lib.hid hX
      have HC1 := Lib.hid hC
      have HG1 := Lib.hid hG
      have HOV := Lib.hid hov
      have HLEN := Lib.hid hlen
      have HPL := Lib.hid hpl
      have HSRC := Lib.hid hsrc
      have HD := Lib.hid hd
      have HC2 := Lib.hid hc2
      clear hq hqd hm hX hC hG hov hlen hsrc hd hc2 hcell hrest hpl hpat hCC hc hfin hB hz hd2
      go_wp2
      go_still_tail 10, (by kernel_rfl)
      repeat still_step
      change wpList _ _ _ _ _ wr.drew
      refine wpList_copyC rfl (.tmp 16) (.tmp 17) 28 28 rfl 5 Tryd.underlying28 sz8 _ _ _ _ _ rfl rfl HC1.out.drew (bcells (r.take q)) (by rw [bcells_length, HPL.out]; exact HQ.out) HSRC.out (by rw [bcells_length, HPL.out, HLEN.out]; have := HQD.out; omega) (bcells_one _) ?_
      intro w5 h5 g5
      rw [HOV.out] at h5
      rw [bcells_length, HPL.out]
      have H5 := Lib.hid h5
      have G5 := Lib.hid (grown_trans' (grown_drew HG1.out) g5)
      have R5 := Lib.hid (HCUT.out.drew'.grown g5)
      have hcnt5 := h5.at_ (hcells_count hw HPAT.out)
      clear h5 g5 hcnt
      have HL5 := Lib.hid (show 72 < (hcells z.ws B z.c).length by rw [hcells_length hw HPAT.out]; omega)
      by_cases h0 : d2 = 0
      · have h0i : (d2 : Int) = 0 := by omega
        have H0 := Lib.hid h0
        clear h0
        go_wp2_with (first
          | (refine wpList_setC szU64 rfl (.tmp 27) (.tmp 25) rfl .u64 _ H5.out HL5.out rfl rfl ?_; intro w6 h6 g6; rw [hcells_setc hw HPAT.out] at h6; have H6 := Lib.hid h6; have G6 := Lib.hid (grown_trans' G5.out g6); have R6 := Lib.hid (R5.out.grown g6); have hcnt6 := h6.at_ (hcells_count hw HPAT.out); clear h6 g6 hcnt5)
          | (go_at_call 70; refine (mix_any g c2 z.ws B _ (HT.out.grown G6.out (fun e => HG0.out (by injection e))) HG0.out hw HPAT.out H6.out).mono ?_; rintro e w7 ⟨rfl, h7, g7⟩; have H7 := Lib.hid h7; have G7 := Lib.hid (grown_trans' G6.out g7); have R7 := Lib.hid (R6.out.grown g7); clear h7 g7))
        go_roundw
        case rel => exact ⟨r.drop q, _, _, _, ⟨compress z.ws B, B, c2⟩, rfl, HRL.out, R7.out, by have h := HREST.out; rw [HFIN.out, if_pos H0.out] at h; exact h, compress_length _ _, HPAT.out, HCS.out, H7.out, G7.out⟩
        case measure => show m - q < m; omega
      · have h0i : ((d2 : Int) == 0) = false := by rw [beq_eq_false_iff_ne]; omega
        have h0j : ¬ ((d2 : Int) = 0) := by omega
        have H0 := Lib.hid h0
        clear h0
        go_wp2_with (refine wpList_setC szU64 rfl (.tmp 27) (.tmp 25) rfl .u64 _ H5.out HL5.out rfl rfl ?_; intro w6 h6 g6; rw [hcells_setc hw HPAT.out] at h6; have H6 := Lib.hid h6; have G6 := Lib.hid (grown_trans' G5.out g6); have R6 := Lib.hid (R5.out.grown g6); have hcnt6 := h6.at_ (hcells_count hw HPAT.out); clear h6 g6 hcnt5)
        go_roundw
        case rel => exact ⟨r.drop q, _, _, _, ⟨z.ws, B, c2⟩, rfl, HRL.out, R6.out, by have h := HREST.out; rw [HFIN.out, if_neg H0.out] at h; exact h, hw, HPAT.out, HCS.out, H6.out, G6.out⟩
        case measure => show m - q < m; omega
    · obtain rfl : m = 0 := by omega
      have hr : r = [] := List.eq_nil_of_length_eq_zero hm
      subst hr
      have hzF : z = F := hz
      subst hzF
      have HC1 := Lib.hid hC
      have HG1 := Lib.hid hG
      clear hC hG hX hz hm
      go_wp2
      go_end0
      exact ⟨rfl, HC1.out, HG1.out⟩
end Go.Proofs.YtndnmjolcilamaaDoor
