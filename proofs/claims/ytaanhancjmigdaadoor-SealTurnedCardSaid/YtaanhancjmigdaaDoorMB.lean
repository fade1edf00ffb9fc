/- The walk of the Hasher's Add. -/
import Derived.Test.YtaanhancjmigdaaDoorMA
namespace Go.Proofs.YtaanhancjmigdaaDoor
open Go.RowKit

def patchM (l : List UInt8) (off : Nat) (p : List UInt8) : List UInt8 := l.take off ++ p ++ l.drop (off + p.length)
theorem patch_lengthM (l : List UInt8) (off : Nat) (p : List UInt8) (h : off + p.length ≤ l.length) : (patchM l off p).length = l.length := by
  rw [patchM, List.length_append, List.length_append, List.length_take, List.length_drop]; omega
theorem patch_nil (l : List UInt8) (off : Nat) : patchM l off [] = l := by simp [patchM]
theorem patch_snoc (l : List UInt8) (off : Nat) (p : List UInt8) (b : UInt8) (h : off + p.length < l.length) : patchM l off (p ++ [b]) = (patchM l off p).set (off + p.length) b := by
  have h1 : (l.take off ++ p).length = off + p.length := by rw [List.length_append, List.length_take]; omega
  rw [patchM, patchM, List.set_append_right _ _ (by rw [h1]; exact Nat.le_refl _), h1, Nat.sub_self, List.length_append, List.length_singleton, ← Nat.add_assoc]
  rw [List.drop_eq_getElem_cons h, List.set_cons_zero, List.append_assoc, List.append_assoc, List.append_assoc]
  rfl

/-- A Hasher: its words, its block, the number of bytes that came. -/
structure HSt where
  (ws : List UInt32) (bl : List UInt8) (c : Nat)
def HSt.put (s : HSt) (b : UInt8) : HSt :=
  if (s.c + 1) % 64 = 0 then ⟨compress s.ws (s.bl.set (s.c % 64) b), s.bl.set (s.c % 64) b, s.c + 1⟩ else ⟨s.ws, s.bl.set (s.c % 64) b, s.c + 1⟩
def HSt.adds (s : HSt) (l : List UInt8) : HSt := l.foldl HSt.put s
theorem adds_append (s : HSt) (a b : List UInt8) : s.adds (a ++ b) = (s.adds a).adds b := List.foldl_append ..
theorem rev_ind {α : Type} {p : List α → Prop} (h0 : p []) (h1 : ∀ l b, p l → p (l ++ [b])) : ∀ l, p l := by
  have h : ∀ (n : Nat) (l : List α), l.length = n → p l := by
    intro n
    induction n with
    | zero => intro l hl; rw [List.eq_nil_of_length_eq_zero hl]; exact h0
    | succ n ih =>
      intro l hl
      have hne : l ≠ [] := fun e => by rw [e] at hl; simp at hl
      rw [← List.dropLast_concat_getLast hne]
      exact h1 _ _ (ih _ (by rw [List.length_dropLast]; omega))
  exact fun l => h _ l rfl
theorem adds_some (s : HSt) (hb : s.bl.length = 64) (p : List UInt8) : s.c % 64 + p.length < 64 → s.adds p = ⟨s.ws, patchM s.bl (s.c % 64) p, s.c + p.length⟩ := by
  refine rev_ind (p := fun p => s.c % 64 + p.length < 64 → s.adds p = ⟨s.ws, patchM s.bl (s.c % 64) p, s.c + p.length⟩) ?_ ?_ p
  · intro _; rw [patch_nil]; rfl
  · intro p b ih h
    rw [List.length_append, List.length_singleton] at h
    rw [adds_append, ih (by omega), patch_snoc _ _ _ _ (by omega)]
    show HSt.put _ b = _
    rw [HSt.put]
    simp only
    rw [if_neg (by omega), show (s.c + p.length) % 64 = s.c % 64 + p.length by omega, List.length_append, List.length_singleton, Nat.add_assoc]
theorem adds_full (s : HSt) (hb : s.bl.length = 64) (p : List UInt8) (h : s.c % 64 + p.length = 64) : s.adds p = ⟨compress s.ws (patchM s.bl (s.c % 64) p), patchM s.bl (s.c % 64) p, s.c + p.length⟩ := by
  have hp : p ≠ [] := fun e => by rw [e] at h; simp at h; omega
  obtain ⟨q, b, rfl⟩ : ∃ q b, p = q ++ [b] := ⟨p.dropLast, p.getLast hp, (List.dropLast_concat_getLast hp).symm⟩
  rw [List.length_append, List.length_singleton] at h
  rw [adds_append, adds_some s hb q (by omega), patch_snoc _ _ _ _ (by omega)]
  show HSt.put _ b = _
  rw [HSt.put]
  simp only
  rw [if_pos (by omega), show (s.c + q.length) % 64 = s.c % 64 + q.length by omega, List.length_append, List.length_singleton, Nat.add_assoc]

theorem hcells_over {ws : List UInt32} {bl : List UInt8} {c : Nat} (hw : ws.length = 8) (hb : bl.length = 64) (off : Nat) (p : List UInt8) (h : off + p.length ≤ 64) :
    over (hcells ws bl c) (8 + off) (bcells p) = hcells ws (patchM bl off p) c := by
  have hwl : (wcells ws).length = 8 := by rw [wcells_length, hw]
  have h1 : (hcells ws bl c).take (8 + off) = wcells ws ++ (bcells bl).take off := by
    rw [hcells, List.append_assoc, List.take_append, List.take_of_length_le (by omega), hwl, Nat.add_sub_cancel_left, List.take_append_of_le_length (by rw [bcells_length]; omega)]
  have h2 : (hcells ws bl c).drop (8 + off + (bcells p).length) = (bcells bl).drop (off + p.length) ++ [.int .u64 (c : Int)] := by
    rw [hcells, List.append_assoc, List.drop_append, List.drop_eq_nil_of_le (by omega), List.nil_append, hwl, bcells_length, show 8 + off + p.length - 8 = off + p.length by omega, List.drop_append_of_le_length (by rw [bcells_length]; omega)]
  rw [over, h1, h2, hcells, patchM, bcells_append, bcells_append, bcells_take, bcells_drop]
  simp only [List.append_assoc]

/-- A slice that reads as these bytes, none of them in block g. -/
def RN (w : World) (g : Nat) (A : Option Addr) (l : List UInt8) (cap : Nat) : Prop :=
  l.length ≤ cap ∧ cap ≤ maxLen ∧ (0 < l.length → ∃ b off, A = some ⟨b, off, none⟩ ∧ b ≠ g ∧ ∀ k u, l[k]? = some u → w.cell? ⟨b, off + k, none⟩ = some (.int .u8 (u.toNat : Int)))
theorem RN.of_RB {w : World} {B g : Nat} {A : Option Addr} {l : List UInt8} {cap : Nat} (h : RB w B A l cap) (hg : B ≤ g) : RN w g A l cap :=
  ⟨h.1, h.2.1, fun hp => by
    obtain ⟨b, off, hA, hb, hc⟩ := h.open_ hp
    refine ⟨b, off, hA, by omega, fun k u hu => ?_⟩
    have hk : k < l.length := (List.getElem?_eq_some_iff.1 hu).1
    rw [hc k hk]
    rw [List.getElem?_eq_getElem hk] at hu
    injection hu with hu
    rw [hu]⟩
theorem RN.grown {w w' : World} {g : Nat} {A : Option Addr} {l : List UInt8} {cap : Nat} (h : RN w g A l cap) (hg : w.grownBy w' (some g)) : RN w' g A l cap :=
  ⟨h.1, h.2.1, fun hp => by
    obtain ⟨b, off, hA, hb, hc⟩ := h.2.2 hp
    refine ⟨b, off, hA, hb, fun k u hu => ?_⟩
    have hx := hc k u hu
    exact (World.cell?_of_block (hg.block b (World.block_lt_of_cell? w _ hx) (fun e => hb (by injection e)))).trans hx⟩
theorem RN.drew' {w : World} {g : Nat} {A : Option Addr} {l : List UInt8} {cap : Nat} (h : RN w g A l cap) : RN w.drew g A l cap := h
theorem RN.cut {w : World} {g b off : Nat} {l : List UInt8} {cap k : Nat} (h : RN w g (some ⟨b, off, none⟩) l cap) (hk : k ≤ l.length) : RN w g (if cap = k then some ⟨b, off, none⟩ else some ⟨b, off + k, none⟩) (l.drop k) (cap - k) := by
  have h1 := h.1
  refine ⟨by rw [List.length_drop]; omega, by have := h.2.1; omega, fun hp => ?_⟩
  rw [List.length_drop] at hp
  rw [if_neg (by omega)]
  obtain ⟨b', off', hA, hb, hc⟩ := h.2.2 (by omega)
  injection hA with hA
  injection hA with e1 e2
  subst e1 e2
  refine ⟨b, off + k, rfl, hb, fun j u hu => ?_⟩
  rw [List.getElem?_drop] at hu
  rw [Nat.add_assoc]
  exact hc _ u hu
theorem RN.nil {w : World} {g : Nat} {A : Option Addr} {cap : Nat} (h : cap ≤ maxLen) : RN w g A [] cap := ⟨Nat.zero_le _, h, fun hp => absurd hp (by simp)⟩

theorem szU64M : (Tryd.prog.info? 44).map (·.size) = some 1 := by kernel_rfl
theorem compress_len (s : HSt) (l : List UInt8) (hw : s.ws.length = 8) (hb : s.bl.length = 64) : (s.adds l).ws.length = 8 ∧ (s.adds l).bl.length = 64 ∧ (s.adds l).c = s.c + l.length := by
  induction l generalizing s with
  | nil => exact ⟨hw, hb, rfl⟩
  | cons b l ih =>
    have h : (s.put b).ws.length = 8 ∧ (s.put b).bl.length = 64 ∧ (s.put b).c = s.c + 1 := by
      rw [HSt.put]
      split
      · exact ⟨compress_length _ _, by rw [List.length_set]; exact hb, rfl⟩
      · exact ⟨hw, by rw [List.length_set]; exact hb, rfl⟩
    have hi := ih (s.put b) h.1 h.2.1
    refine ⟨hi.1, hi.2.1, ?_⟩
    show ((s.put b).adds l).c = _
    rw [hi.2.2, h.2.2, List.length_cons]
    omega

set_option maxRecDepth 10000 in
set_option maxHeartbeats 1000000 in
theorem add_any (g n cap : Nat) (s : HSt) (A : Option Addr) (l : List UInt8) (w : World) (hT : TB w) (hg0 : g ≠ 0) (hw : s.ws.length = 8) (hb : s.bl.length = 64) (hn : l.length = n) (hc : s.c + n < 1152921504606846976)
    (h : CB w g 104 (hcells s.ws s.bl s.c)) (hA : RN w g A l cap) :
    Calls Tryd.prog 53 #[.pointer (some ⟨g, 0, none⟩), .slice A n cap] w fun e w' => e = .returned (.tuple #[]) ∧ CB w' g 104 (hcells (s.adds l).ws (s.adds l).bl (s.adds l).c) ∧ w.grownBy w' (some g) := by
  have HT := Lib.hid hT
  have HG0 := Lib.hid hg0
  have HWL := Lib.hid hw
  have HBL := Lib.hid hb
  have HN := Lib.hid hn
  have HC := Lib.hid hc
  have H := Lib.hid h
  have HA := Lib.hid hA
  clear hT hg0 hw hb hn hc h hA
  obtain ⟨F, hF⟩ : ∃ F, F = s.adds l := ⟨_, rfl⟩
  rw [← hF]
  have HF := Lib.hid hF
  clear hF
  go_enter Tryd.func53, Tryd.ntmps53
  go_wp2
  go_loopw [1] (fun b wr => ∃ (r : List UInt8) (X : Option Addr) (m k : Nat) (z : HSt), b = .slice X m k ∧ r.length = m ∧ RN wr g X r k ∧ z.adds r = F ∧ z.ws.length = 8 ∧ z.bl.length = 64 ∧ z.c + m = s.c + n ∧ CB wr g 104 (hcells z.ws z.bl z.c) ∧ w.grownBy wr (some g)) (fun b _ => match b with | .slice _ m _ => m | _ => 0)
  case atStart => exact ⟨l, A, n, cap, s, rfl, HN.out, HA.out, HF.out.symm, HWL.out, HBL.out, rfl, H.out, World.grownBy.refl _ _⟩
  case round =>
    obtain ⟨r, X, m, k, z, rfl, hm, hX, hz, hw, hb, hc, hC, hG⟩ := hrel
    by_cases hp : 0 < m
    · obtain ⟨b, off, rfl, hbg, hcell⟩ := hX.2.2 (by omega)
      obtain ⟨d, hd⟩ : ∃ d, d = z.c % 64 := ⟨_, rfl⟩
      obtain ⟨q, hq⟩ : ∃ q, q = Nat.min m (64 - d) := ⟨_, rfl⟩
      obtain ⟨c2, hc2⟩ : ∃ c2, c2 = z.c + q := ⟨_, rfl⟩
      obtain ⟨d2, hd2⟩ : ∃ d2, d2 = c2 % 64 := ⟨_, rfl⟩
      have hqm : q ≤ m := by rw [hq]; exact Nat.min_le_left _ _
      have hqd : q ≤ 64 - d := by rw [hq]; exact Nat.min_le_right _ _
      have hq0 : 0 < q := by rw [hq]; exact Nat.lt_min.2 ⟨hp, by omega⟩
      have hCC := HC.out
      have hpl : (r.take q).length = q := by rw [List.length_take]; omega
      have hov := hcells_over (c := z.c) hw hb d (r.take q) (by rw [hpl]; omega)
      have hlen : (hcells z.ws z.bl z.c).length = 73 := hcells_length hw hb
      have hcnt := hC.at_ (hcells_count hw hb)
      have hpat : (patchM z.bl d (r.take q)).length = 64 := by rw [patch_lengthM _ _ _ (by rw [hpl, hb]; omega), hb]
      have hsrc : ∀ j v, (bcells (r.take q))[j]? = some v → wr.drew.cell? ((⟨b, off, none⟩ : Addr).add j) = some v := fun j v hv => by
        rw [bcells_at] at hv
        obtain ⟨u, hu, rfl⟩ := Option.map_eq_some_iff.1 hv
        have hj : j < q := by rw [← hpl]; exact (List.getElem?_eq_some_iff.1 hu).1
        rw [List.getElem?_take_of_lt hj] at hu
        rw [Addr.add_lit]
        exact hcell j u hu
      have hrest : z.adds r = (z.adds (r.take q)).adds (r.drop q) := by rw [← adds_append, List.take_append_drop]
      have w1 : (z.c : Int).tmod 64 = (d : Int) := by rw [Int.tmod_eq_emod_of_nonneg (by omega)]; omega
      have b1 : (d : Int) ≤ 64 := by omega
      have b2 : ¬ (64 = d) := by omega
      have b3 : (d : Int) < 64 := by omega
      have w2 : IntKind.u64.wrap (q : Int) = (q : Int) := by rw [show ∀ y, IntKind.u64.wrap y = y % 18446744073709551616 from fun _ => rfl]; omega
      have w3 : IntKind.u64.wrap ((z.c : Int) + (q : Int)) = (c2 : Int) := by rw [show ∀ y, IntKind.u64.wrap y = y % 18446744073709551616 from fun _ => rfl]; omega
      have w4 : (c2 : Int).tmod 64 = (d2 : Int) := by rw [Int.tmod_eq_emod_of_nonneg (by omega)]; omega
      have b4 : (q : Int) ≤ (m : Int) := by omega
      have hmi : (0 : Int) < (m : Int) := by omega
      obtain ⟨B, hB⟩ : ∃ B, B = patchM z.bl d (r.take q) := ⟨_, rfl⟩
      rw [← hB] at hov hpat
      have hfin : (z.adds (r.take q)) = if d2 = 0 then ⟨compress z.ws B, B, c2⟩ else ⟨z.ws, B, c2⟩ := by
        split
        · rw [adds_full z hb _ (by rw [hpl]; omega), hpl, ← hd, ← hB, ← hc2]
        · rw [adds_some z hb _ (by rw [hpl]; omega), hpl, ← hd, ← hB, ← hc2]
      have HFIN := Lib.hid hfin
      have HPAT := Lib.hid hpat
      have HREST := Lib.hid (show (z.adds (r.take q)).adds (r.drop q) = F by rw [← hrest, hz])
      have HRL := Lib.hid (show (r.drop q).length = m - q by rw [List.length_drop, hm])
      have HCS := Lib.hid (show c2 + (m - q) = s.c + n by omega)
      have hmk := hX.1
      rw [hm] at hmk
      have HCUT := Lib.hid (RN.cut hX (k := q) (by rw [hm]; exact hqm))
      have HQ := Lib.hid hq
      have HQD := Lib.hid hqd
      have HM := Lib.hid hm
      have HX := Lib.hid hX
      have HC1 := Lib.hid hC
      have HG1 := Lib.hid hG
      have HOV := Lib.hid hov
      have HLEN := Lib.hid hlen
      have HPL := Lib.hid hpl
      have HSRC := Lib.hid hsrc
      have HD := Lib.hid hd
      have HC2 := Lib.hid hc2
      clear hq hqd hm hX hC hG hov hlen hsrc hd hc2 hcell hrest hpl hpat hCC hc hfin hB hz hd2
      go_wp2
      go_still_tail 10, (by kernel_rfl)
      repeat still_step
      change wpList _ _ _ _ _ wr.drew
      refine wpList_copyC rfl (.tmp 16) (.tmp 17) 32 32 rfl 5 Tryd.underlying32 sz8 _ _ _ _ _ rfl rfl HC1.out.drew (bcells (r.take q)) (by rw [bcells_length, HPL.out]; exact HQ.out) HSRC.out (by rw [bcells_length, HPL.out, HLEN.out]; have := HQD.out; omega) (bcells_one _) ?_
      intro w5 h5 g5
      rw [HOV.out] at h5
      rw [bcells_length, HPL.out]
      have H5 := Lib.hid h5
      have G5 := Lib.hid (grown_trans' (grown_drew HG1.out) g5)
      have R5 := Lib.hid (HCUT.out.drew'.grown g5)
      have hcnt5 := h5.at_ (hcells_count hw HPAT.out)
      clear h5 g5 hcnt
      have HL5 := Lib.hid (show 72 < (hcells z.ws B z.c).length by rw [hcells_length hw HPAT.out]; omega)
      by_cases h0 : d2 = 0
      · have h0i : (d2 : Int) = 0 := by omega
        have H0 := Lib.hid h0
        clear h0
        go_wp2_with (first
          | (refine wpList_setC szU64M rfl (.tmp 27) (.tmp 25) rfl .u64 _ H5.out HL5.out rfl rfl ?_; intro w6 h6 g6; rw [hcells_setc hw HPAT.out] at h6; have H6 := Lib.hid h6; have G6 := Lib.hid (grown_trans' G5.out g6); have R6 := Lib.hid (R5.out.grown g6); have hcnt6 := h6.at_ (hcells_count hw HPAT.out); clear h6 g6 hcnt5)
          | (go_at_call 63; refine (mix_any g c2 z.ws B _ (HT.out.grown G6.out (fun e => HG0.out (by injection e))) HG0.out hw HPAT.out H6.out).mono ?_; rintro e w7 ⟨rfl, h7, g7⟩; have H7 := Lib.hid h7; have G7 := Lib.hid (grown_trans' G6.out g7); have R7 := Lib.hid (R6.out.grown g7); clear h7 g7))
        go_roundw
        case rel => exact ⟨r.drop q, _, _, _, ⟨compress z.ws B, B, c2⟩, rfl, HRL.out, R7.out, by have h := HREST.out; rw [HFIN.out, if_pos H0.out] at h; exact h, compress_length _ _, HPAT.out, HCS.out, H7.out, G7.out⟩
        case measure => show m - q < m; omega
      · have h0i : ((d2 : Int) == 0) = false := by rw [beq_eq_false_iff_ne]; omega
        have h0j : ¬ ((d2 : Int) = 0) := by omega
        have H0 := Lib.hid h0
        clear h0
        go_wp2_with (refine wpList_setC szU64M rfl (.tmp 27) (.tmp 25) rfl .u64 _ H5.out HL5.out rfl rfl ?_; intro w6 h6 g6; rw [hcells_setc hw HPAT.out] at h6; have H6 := Lib.hid h6; have G6 := Lib.hid (grown_trans' G5.out g6); have R6 := Lib.hid (R5.out.grown g6); have hcnt6 := h6.at_ (hcells_count hw HPAT.out); clear h6 g6 hcnt5)
        go_roundw
        case rel => exact ⟨r.drop q, _, _, _, ⟨z.ws, B, c2⟩, rfl, HRL.out, R6.out, by have h := HREST.out; rw [HFIN.out, if_neg H0.out] at h; exact h, hw, HPAT.out, HCS.out, H6.out, G6.out⟩
        case measure => show m - q < m; omega
    · obtain rfl : m = 0 := by omega
      have hr : r = [] := List.eq_nil_of_length_eq_zero hm
      subst hr
      have hzF : z = F := hz
      subst hzF
      have HC1 := Lib.hid hC
      have HG1 := Lib.hid hG
      clear hC hG hX hz hm
      go_wp2
      go_end0
      exact ⟨rfl, HC1.out, HG1.out⟩
end Go.Proofs.YtaanhancjmigdaaDoor
namespace Go.Proofs.YtaanhancjmigdaaDoor
open Go.RowKit

/-- How many noughts. -/
def gapOf (c : Nat) : Nat := (120 - (c + 1) % 64) % 64
theorem gap_fact (c : Nat) (h : c < 1000000000000) : (18446744073709551616 + 56 - (c + 1)) % 18446744073709551616 % 64 = gapOf c := by
  unfold gapOf
  omega
theorem gap_wrap (c : Nat) (h : c < 1000000000000) : IntKind.u64.wrap (56 - ((c : Int) + 1)) = (((18446744073709551616 + 56 - (c + 1)) % 18446744073709551616 : Nat) : Int) := by
  rw [show ∀ y, IntKind.u64.wrap y = y % 18446744073709551616 from fun _ => rfl]
  omega
def lenBytes (c : Nat) : List UInt8 := bytesOf (UInt32.ofNat (8 * c / 4294967296)) ++ bytesOf (UInt32.ofNat (8 * c % 4294967296))
theorem lenBytes_length (c : Nat) : (lenBytes c).length = 8 := rfl
def padBytes (c : Nat) : List UInt8 := [128] ++ zeros (gapOf c) ++ lenBytes c
def padOf (s : HSt) : HSt := s.adds (padBytes s.c)
theorem zeroB64 (w : World) : (zeroValue 74).run Tryd.prog w = .ok (.agg (bcells (zeros 64)).toArray) w := by kernel_rfl
theorem zeroB8 (w : World) : (zeroValue 77).run Tryd.prog w = .ok (.agg (bcells (zeros 8)).toArray) w := by kernel_rfl
theorem zeros_take (n k : Nat) (h : k ≤ n) : ((zeros n).drop 0).take k = zeros k := by
  rw [List.drop_zero, zeros, List.take_replicate, Nat.min_eq_left h]
  rfl
theorem over_len (u v : UInt32) : over (over (bcells (zeros 8)) 0 (bcells (bytesOf u))) 4 (bcells (bytesOf v)) = bcells (bytesOf u ++ bytesOf v) := rfl
theorem TB.alloc {w : World} (h : TB w) (o : Obj) : TB (w.alloc o) := h.grown (grown_alloc w o none) (fun e => by cases e)
/-- A piece of a block of bytes, as a slice. -/
theorem RN.of_CB {w : World} {g g2 off : Nat} {t : TypeId} {l p : List UInt8} {n cap : Nat} (h : CB w g2 t (bcells l)) (hg : g2 ≠ g) (hn : (l.drop off).take n = p) (hp : p.length ≤ cap) (hm : cap ≤ maxLen) : RN w g (some ⟨g2, off, none⟩) p cap :=
  ⟨hp, hm, fun _ => ⟨g2, off, rfl, hg, fun k u hu => by
    subst hn
    have hk : k < n := by
      have := (List.getElem?_eq_some_iff.1 hu).1
      rw [List.length_take] at this
      omega
    rw [List.getElem?_take_of_lt hk, List.getElem?_drop] at hu
    exact h.at_ (bcells_some hu)⟩⟩

set_option maxRecDepth 10000 in
set_option maxHeartbeats 400000 in
theorem pad_any (g : Nat) (s : HSt) (w : World) (hT : TB w) (hg0 : g ≠ 0) (hw : s.ws.length = 8) (hb : s.bl.length = 64) (hc : s.c < 1000000000000)
    (h : CB w g 104 (hcells s.ws s.bl s.c)) :
    Calls Tryd.prog 64 #[.pointer (some ⟨g, 0, none⟩)] w fun e w' => e = .returned (.tuple #[]) ∧ CB w' g 104 (hcells (padOf s).ws (padOf s).bl (padOf s).c) ∧ w.grownBy w' (some g) := by
  have HT := Lib.hid hT
  have HG0 := Lib.hid hg0
  have HC := Lib.hid hc
  have H := Lib.hid h
  have hgl := h.lt
  have HGL := Lib.hid hgl
  have hcnt := h.at_ (hcells_count hw hb)
  obtain ⟨c, hcc⟩ : ∃ c, c = s.c := ⟨_, rfl⟩
  obtain ⟨bc, hbc⟩ : ∃ b, b = 8 * c := ⟨_, rfl⟩
  obtain ⟨hi, hhi⟩ : ∃ b, b = bc / 4294967296 := ⟨_, rfl⟩
  obtain ⟨lo, hlo⟩ : ∃ b, b = bc % 4294967296 := ⟨_, rfl⟩
  obtain ⟨e, he⟩ : ∃ e, e = gapOf c := ⟨_, rfl⟩
  rw [← hcc] at hcnt
  have hel : e < 64 := by rw [he, gapOf]; omega
  have hcl : c < 1000000000000 := by omega
  obtain ⟨y, hy⟩ : ∃ y, y = c + 1 := ⟨_, rfl⟩
  have w5 := gap_wrap c hcl
  rw [show (c : Int) + 1 = (y : Int) by omega] at w5
  have HY := Lib.hid hy
  clear hy
  have w6 := gap_fact c hcl
  rw [← he] at w6
  obtain ⟨x, hx⟩ : ∃ x, x = (18446744073709551616 + 56 - (c + 1)) % 18446744073709551616 := ⟨_, rfl⟩
  rw [← hx] at w5 w6
  have w7 : (x : Int).tmod 64 = (e : Int) := by rw [Int.tmod_eq_emod_of_nonneg (by omega)]; omega
  clear w6 hx
  have w1 : IntKind.u64.wrap ((c : Int) * 8) = (bc : Int) := by rw [show ∀ y, IntKind.u64.wrap y = y % 18446744073709551616 from fun _ => rfl]; omega
  obtain ⟨uh, huh⟩ : ∃ u, u = UInt32.ofNat hi := ⟨_, rfl⟩
  obtain ⟨ul, hul⟩ : ∃ u, u = UInt32.ofNat lo := ⟨_, rfl⟩
  have euh : uh.toNat = hi := by rw [huh, ofNat_toNat32 _ (by omega)]
  have eul : ul.toNat = lo := by rw [hul, ofNat_toNat32 _ (by omega)]
  have w2 : (bc : Int) / 4294967296 = (uh.toNat : Int) := by omega
  have w3 : IntKind.u32.wrap (uh.toNat : Int) = (uh.toNat : Int) := u32_wrap uh
  have w4 : (bc : Int) % 4294967296 = (ul.toNat : Int) := by omega
  have w4' : IntKind.u32.wrap (bc : Int) = (ul.toNat : Int) := by rw [show ∀ y, IntKind.u32.wrap y = y % 4294967296 from fun _ => rfl]; exact w4
  have hlb : bytesOf uh ++ bytesOf ul = lenBytes s.c := by rw [lenBytes, ← hcc, ← hbc, ← hhi, ← hlo, ← huh, ← hul]
  have HLB := Lib.hid hlb
  clear hlb euh eul huh hul
  have b1 : (e : Int) ≤ 64 := by omega
  have HE := Lib.hid he
  have HEL := Lib.hid hel
  have HCC := Lib.hid hcc
  clear hT hg0 hc h hgl hcc hbc hhi hlo he hel hcl
  have hs0 := compress_len s [128] hw hb
  obtain ⟨s1, hs1⟩ : ∃ z, z = s.adds [128] := ⟨_, rfl⟩
  rw [← hs1] at hs0
  have HS1 := Lib.hid hs1
  have HS1L := Lib.hid hs0
  have hs2 := compress_len s1 (zeros e) hs0.1 hs0.2.1
  have E1 := Lib.hid (show (s1.c : Int) = (y : Int) by have h1 := hs0.2.2; have h2 := HCC.out; have h3 := HY.out; rw [List.length_singleton] at h1; omega)
  obtain ⟨s2, hs2'⟩ : ∃ z, z = s1.adds (zeros e) := ⟨_, rfl⟩
  rw [← hs2'] at hs2
  have HS2 := Lib.hid hs2'
  have HS2L := Lib.hid hs2
  have HB1 := Lib.hid (show s1.c + e < 1152921504606846976 by have h1 := hs0.2.2; have h2 := HC.out; have h3 := HEL.out; rw [List.length_singleton] at h1; omega)
  have HB2 := Lib.hid (show s2.c + 8 < 1152921504606846976 by have h0 := hs2.2.2; have h1 := hs0.2.2; have h2 := HC.out; have h3 := HEL.out; rw [List.length_singleton] at h1; rw [zeros_length] at h0; omega)
  have HPD := Lib.hid (show s2.adds (lenBytes s.c) = padOf s by rw [padOf, padBytes, adds_append, adds_append, ← hs1, ← HCC.out, ← HE.out, ← hs2', HCC.out])
  clear hs0 hs1 hs2 hs2'
  go_enter Tryd.func64, Tryd.ntmps64
  go_wp2_with (first
    | (go_at_call 53; have hx := H8; clear hx; refine (add_any g 8 8 s2 _ (lenBytes s.c) _ (HT.out.grown G8.out (fun e => HG0.out (by injection e))) HG0.out HS2L.out.1 HS2L.out.2.1 (lenBytes_length _) HB2.out H8.out (RN.of_CB (n := 8) (off := 0) D8.out (by have := H5.out.lt; omega) (by rw [List.drop_zero]; exact List.take_of_length_le (by rw [lenBytes_length]; exact Nat.le_refl _)) (by rw [lenBytes_length]; exact Nat.le_refl _) (by unfold maxLen; omega))).mono ?_; rintro e9 w9 ⟨rfl, h9, g9⟩; rw [HPD.out] at h9; have H9 := Lib.hid h9; have G9 := Lib.hid (grown_trans' G8.out g9); clear h9 g9)
    | (go_at_call 65; have hx := D7; clear hx; refine (putWord_any w5.heap.size 4 4 4 _ _ ul _ (by omega) D7.out (by rw [over_length _ _ _ (by rw [bcells_length, bcells_length, zeros_length, bytesOf_length]; omega), bcells_length, zeros_length]; omega)).mono ?_; rintro e8 w8 ⟨rfl, d8, g8⟩; rw [over_len, HLB.out] at d8; have D8 := Lib.hid d8; have H8 := Lib.hid (H7.out.grown g8 (by have := H5.out.lt; omega)); have G8 := Lib.hid (grown_new G7.out g8 (by have := G5.out.size; omega)); clear d8 g8)
    | (go_at_call 65; have hx := D6; clear hx; refine (putWord_any w5.heap.size 0 8 8 _ _ uh _ (by omega) D6.out (by rw [bcells_length, zeros_length]; omega)).mono ?_; rintro e7 w7 ⟨rfl, d7, g7⟩; have D7 := Lib.hid d7; have H7 := Lib.hid (H6.out.grown g7 (by have := H5.out.lt; omega)); have G7 := Lib.hid (grown_new (grown_trans' G5.out (grown_alloc _ _ _)) g7 (by have := G5.out.size; omega)); clear d7 g7)
    | (have hx := H5; clear hx; refine wpList_allocC zeroB8 rfl rfl ?_; have H6 := Lib.hid (H5.out.alloc (.cells (bcells (zeros 8)).toArray 77)); have D6 := Lib.hid (CB.new w5 77 (bcells (zeros 8))))
    | (go_at_call 53; have hx := H3; clear hx; refine (add_any g e 64 s1 _ (zeros e) _ ((HT.out.grown G3.out (fun e => HG0.out (by injection e))).alloc _) HG0.out HS1L.out.1 HS1L.out.2.1 (zeros_length e) HB1.out (H3.out.alloc _) (RN.of_CB (n := e) (off := 0) (CB.new w3 _ (bcells (zeros 64))) (by have := HGL.out; have := G3.out.size; omega) (zeros_take 64 e (by have := HEL.out; omega)) (by rw [zeros_length]; have := HEL.out; omega) (by unfold maxLen; omega))).mono ?_; rintro e5 w5 ⟨rfl, h5, g5⟩; rw [← HS2.out] at h5; have H5 := Lib.hid h5; have G5 := Lib.hid (grown_trans' (grown_trans' G3.out (grown_alloc _ _ _)) g5); clear h5 g5 hcnt3)
    | (go_at_call 53; refine (add_any g 1 1 s _ [128] _ (HT.out.alloc _) HG0.out hw hb rfl (by have := HC.out; omega) (H.out.alloc _) (RN.of_CB (n := 1) (off := 0) (CB.new w _ (bcells [128])) (by have := HGL.out; omega) rfl (Nat.le_refl _) (by unfold maxLen; omega))).mono ?_; rintro e3 w3 ⟨rfl, h3, g3⟩; rw [← HS1.out] at h3; have H3 := Lib.hid h3; have G3 := Lib.hid (grown_trans' (grown_alloc w _ _) g3); clear h3 g3)
    | (have hx := H3; clear hx; refine wpList_allocC zeroB64 rfl rfl ?_; have hcnt3 := (H3.out.alloc (.cells (bcells (zeros 64)).toArray 74)).at_ (hcells_count HS1L.out.1 HS1L.out.2.1); rw [E1.out] at hcnt3))
  go_end0
  exact ⟨rfl, H9.out, G9.out⟩
end Go.Proofs.YtaanhancjmigdaaDoor
namespace Go.Proofs.YtaanhancjmigdaaDoor
open Go.RowKit

/-- The digest of all that came. -/
def sumOf (s : HSt) : List UInt8 := (List.range 32).map fun i => (bytesOf ((padOf s).ws.getD (i / 4) 0)).getD (i % 4) 0
theorem sumOf_length (s : HSt) : (sumOf s).length = 32 := by simp [sumOf]
theorem four_eq (l : List UInt8) (h : l.length = 4) : l = [l.getD 0 0, l.getD 1 0, l.getD 2 0, l.getD 3 0] := by
  match l, h with
  | [a, b, c, d], _ => rfl
theorem sumOf_piece (s : HSt) (k : Nat) (hk : k < 8) (u : UInt32) (hu : (padOf s).ws[k]? = some u) : ((sumOf s).drop (4 * k)).take (bytesOf u).length = bytesOf u := by
  rw [bytesOf_length]
  apply List.ext_getElem?
  intro i
  by_cases hi : i < 4
  · rw [List.getElem?_take_of_lt hi, List.getElem?_drop, sumOf, List.getElem?_map, List.getElem?_range (by omega), Option.map_some, show (4 * k + i) / 4 = k by omega, show (4 * k + i) % 4 = i by omega, getD_some hu]
    rw [List.getElem?_eq_getElem (by rw [bytesOf_length]; exact hi), List.getD, List.getElem?_eq_getElem (by rw [bytesOf_length]; exact hi)]
    rfl
  · rw [List.getElem?_eq_none (by rw [List.length_take]; omega), List.getElem?_eq_none (by rw [bytesOf_length]; omega)]
theorem over_mix (a b p : List UInt8) (k : Nat) (hab : a.length = b.length) (hp : (a.drop k).take p.length = p) (hk : k + p.length ≤ a.length) : over (bcells (mix a b k)) k (bcells p) = bcells (mix a b (k + p.length)) := by
  have h1 : (mix a b k).take k = a.take k := by
    rw [mix, List.take_append_of_le_length (by rw [List.length_take]; omega), List.take_take, Nat.min_self]
  have h2 : (mix a b k).drop (k + p.length) = b.drop (k + p.length) := by
    rw [mix, List.drop_append, List.drop_eq_nil_of_le (by rw [List.length_take]; omega), List.nil_append, List.length_take, List.drop_drop]
    congr 1
    omega
  rw [over, bcells_length, ← bcells_take, ← bcells_drop, h1, h2, ← bcells_append, ← bcells_append, mix, List.take_add, hp]
theorem hcells_one (ws : List UInt32) (bl : List UInt8) (c : Nat) : ∀ u ∈ hcells ws bl c, u.oneCell' = true := by
  intro u hu
  rw [hcells, List.mem_append, List.mem_append] at hu
  rcases hu with (h | h) | h
  · exact wcells_one _ u h
  · exact bcells_one _ u h
  · rw [List.mem_singleton.1 h]; rfl
theorem hcells_words {ws : List UInt32} {bl : List UInt8} {c : Nat} (hw : ws.length = 8) : ((hcells ws bl c).drop 0).take 8 = wcells ws := by
  rw [List.drop_zero, hcells, List.append_assoc, List.take_left' (by rw [wcells_length, hw])]
theorem zeroB32 (w : World) : (zeroValue 59).run Tryd.prog w = .ok (.agg (bcells (zeros 32)).toArray) w := by kernel_rfl
theorem zeroH (w : World) : (zeroValue 104).run Tryd.prog w = .ok (.agg (hcells (wz 8) (zeros 64) 0).toArray) w := by kernel_rfl
theorem aggH : AggT Tryd.prog 104 73 := ⟨fun _ => by kernel_rfl, by kernel_rfl⟩
theorem agg8M : AggT Tryd.prog 102 8 := ⟨fun _ => by kernel_rfl, by kernel_rfl⟩
theorem agg32 : AggT Tryd.prog 59 32 := ⟨fun _ => by kernel_rfl, by kernel_rfl⟩

set_option maxRecDepth 10000 in
set_option maxHeartbeats 400000 in
theorem hsum_any (g : Nat) (s : HSt) (w : World) (hT : TB w) (hw : s.ws.length = 8) (hb : s.bl.length = 64) (hc : s.c < 1000000000000)
    (h : CB w g 104 (hcells s.ws s.bl s.c)) :
    Calls Tryd.prog 54 #[.pointer (some ⟨g, 0, none⟩)] w fun e w' => e = .returned (.agg (bcells (sumOf s)).toArray) ∧ w.grownBy w' none := by
  have HT := Lib.hid hT
  have HW := Lib.hid hw
  have HB := Lib.hid hb
  have HC := Lib.hid hc
  have H := Lib.hid h
  have HTL := Lib.hid hT.lt
  have hpl := compress_len s (padBytes s.c) hw hb
  have HPW := Lib.hid (show (padOf s).ws.length = 8 from hpl.1)
  have HPL := Lib.hid (show (hcells (padOf s).ws (padOf s).bl (padOf s).c).length = 73 from hcells_length hpl.1 hpl.2.1)
  clear hpl
  clear hT hw hb hc h
  go_enter Tryd.func54, Tryd.ntmps54
  go_wp2_with (first
    | (have hx := D4; clear hx; fail)
    | (go_at_call 64; refine (pad_any (w.heap.size + 1) s _ T2.out (by omega) HW.out HB.out HC.out D2.out).mono ?_; rintro e3 w3 ⟨rfl, d3, g3⟩; have D3 := Lib.hid d3; have R3 := Lib.hid (R2.out.grown g3 (by omega)); have G3 := Lib.hid (none_new G2.out g3 (by omega)); clear d3 g3)
    | (refine wpList_loadC (off := 0) (p := wcells (padOf s).ws) agg8M rfl (.tmp 11) rfl (D3.out.alloc _) (hcells_words HPW.out) (by rw [HPL.out]; omega) (by go_simp) ?_; have D4 := D3)
    | refine wpList_loadC (off := 0) (p := hcells s.ws s.bl s.c) aggH rfl (.tmp 8) rfl (H.out.alloc _) (by rw [List.drop_zero]; exact List.take_of_length_le (by rw [hcells_length HW.out HB.out]; exact Nat.le_refl _)) (by rw [hcells_length HW.out HB.out]; omega) rfl ?_
    | (refine wpList_storeC (off := 0) (p := hcells s.ws s.bl s.c) aggH.hi rfl (.tmp 3) (.tmp 9) rfl (.agg (hcells s.ws s.bl s.c).toArray) rfl (hcells_one _ _ _) (CB.new1 w _ _ (hcells (wz 8) (zeros 64) 0)) (hcells_length HW.out HB.out) (by rw [hcells_length (c := 0) (wz_length 8) (zeros_length 64)]; omega) (by go_simp) rfl ?_; intro w2 d2 g2; rw [over_all _ _ (by rw [hcells_length HW.out HB.out, hcells_length (wz_length 8) (zeros_length 64)]; exact Nat.le_refl _)] at d2; have D2 := Lib.hid d2; have R2 := Lib.hid (((CB.new w 59 (bcells (zeros 32))).alloc _).grown g2 (by omega)); have G2 := Lib.hid (none_new (grown_trans' (grown_alloc w _ none) (grown_alloc _ _ none)) g2 (by omega)); have T2 := Lib.hid (((HT.out.alloc _).alloc _).grown g2 (by simp)); clear d2 g2)
    | refine wpList_allocC zeroB32 rfl rfl ?_
    | refine wpList_allocC zeroH rfl rfl ?_)
  have HO := Lib.hid (CB.new w3 59 (bcells (zeros 32)))
  have RO := Lib.hid (R3.out.alloc (.cells (bcells (zeros 32)).toArray 59))
  have GO := Lib.hid (grown_trans' G3.out (grown_alloc w3 (.cells (bcells (zeros 32)).toArray 59) none))
  have HSZ := Lib.hid G3.out.size
  have HSZ2 := Lib.hid R3.out.lt
  obtain ⟨S, hS⟩ : ∃ S, S = (padOf s).ws := ⟨_, rfl⟩
  rw [← hS] at HPW ⊢
  have HS := Lib.hid hS
  clear hS
  have hll : (sumOf s).length = (zeros 32).length := by rw [sumOf_length, zeros_length]
  have HLL := Lib.hid hll
  clear hll
  go_loopw [13] (fun i wr => ∃ k : Nat, i = .int .i64 k ∧ k ≤ 8 ∧ CB wr w3.heap.size 59 (bcells (mix (sumOf s) (zeros 32) (4 * k))) ∧ CB wr w.heap.size 59 (bcells (zeros 32)) ∧ w.grownBy wr none) (fun i _ => 8 - (intOf i).toNat)
  case atStart => exact ⟨0, rfl, by omega, by rw [mix_zero]; exact HO.out, RO.out, GO.out⟩
  case round =>
    obtain ⟨k, rfl, hk, hO, hR, hG⟩ := hrel
    by_cases hlt : k < 8
    · obtain ⟨u, hu⟩ : ∃ u, S[k]? = some u := ⟨_, List.getElem?_eq_getElem (by rw [HPW.out]; omega)⟩
      have hix := run_indexW Tryd.underlying102 sz32 Tryd.underlying101 HPW.out hu
      obtain ⟨m, hm⟩ : ∃ m, m = 4 * k := ⟨_, rfl⟩
      have hov := over_mix (sumOf s) (zeros 32) (bytesOf u) m HLL.out (by rw [hm]; exact sumOf_piece s k hlt u (by rw [← HS.out]; exact hu)) (by rw [sumOf_length, bytesOf_length]; omega)
      rw [bytesOf_length, show m + 4 = 4 * (k + 1) by omega] at hov
      rw [← hm] at hO
      have HOV := Lib.hid hov
      have HOO := Lib.hid hO
      have HR := Lib.hid hR
      have HG := Lib.hid hG
      have HML := Lib.hid (show m + 4 ≤ (bcells (mix (sumOf s) (zeros 32) m)).length by rw [bcells_length, mix_length _ _ _ HLL.out, zeros_length]; omega)
      have hki : (k : Int) < 8 := by omega
      have w1 : (k : Int) * 4 = (m : Int) := by omega
      have w2 : IntKind.i64.wrap (m : Int) = (m : Int) := by rw [IntKind.wrap_i64]; omega
      have b1 : (m : Int) ≤ 32 := by omega
      have b2 : ¬ (32 = m) := by omega
      have b3 : (m : Int) < 32 := by omega
      have h4 : 4 ≤ 32 - m := by omega
      have HLT := Lib.hid hlt
      clear hov hO hR hG hu hm hlt hk
      go_wp2_with (go_at_call 65; refine (putWord_any w3.heap.size m _ _ _ _ u _ h4 HOO.out HML.out).mono ?_; rintro e5 w5 ⟨rfl, h5, g5⟩; rw [HOV.out] at h5; have H5 := Lib.hid h5; have R5 := Lib.hid (HR.out.grown g5 (by have := HSZ2.out; omega)); have G5 := Lib.hid (none_new HG.out g5 HSZ.out); clear h5 g5)
      go_roundw
      case rel => exact ⟨k + 1, by go_num, by have := HLT.out; omega, H5.out, R5.out, G5.out⟩
      case measure => have := HLT.out; simp [intOf]; omega
    · obtain rfl : k = 8 := by omega
      rw [mix_all _ _ (by rw [zeros_length]; omega) (by rw [sumOf_length]; omega)] at hO
      have HOO := Lib.hid hO
      have HR := Lib.hid hR
      have HG := Lib.hid hG
      clear hO hR hG
      go_wp2_with (first
        | refine wpList_loadC (off := 0) (p := bcells (sumOf s)) agg32 rfl (.tmp 4) rfl HOO.out (by rw [List.drop_zero]; exact List.take_of_length_le (by rw [bcells_length, sumOf_length]; exact Nat.le_refl _)) (by rw [bcells_length, sumOf_length]; omega) rfl ?_
        | (refine wpList_storeC (off := 0) (p := bcells (sumOf s)) agg32.hi rfl (.tmp 2) (.tmp 23) rfl (.agg (bcells (sumOf s)).toArray) rfl (bcells_one _) HR.out (by rw [bcells_length, sumOf_length]) (by rw [bcells_length, zeros_length]; omega) rfl rfl ?_; intro w5 h5 g5; rw [over_all _ _ (by rw [bcells_length, bcells_length, sumOf_length, zeros_length]; exact Nat.le_refl _)] at h5))
      exact bodyPost_ret (results_C Tryd.underlying59 agg32.hi rfl _ h5 (by rw [bcells_length, sumOf_length]) rfl) rfl ⟨rfl, none_new HG.out g5 (Nat.le_refl _)⟩
end Go.Proofs.YtaanhancjmigdaaDoor
namespace Go.Proofs.YtaanhancjmigdaaDoor
open Go.RowKit

def initW : List UInt32 := [1779033703, 3144134277, 1013904242, 2773480762, 1359893119, 2600822924, 528734635, 1541459225]
def newH : HSt := ⟨initW, zeros 64, 0⟩
theorem newH_cells : (hcells newH.ws newH.bl newH.c).toArray = (hcells initW (zeros 64) 0).toArray := rfl

set_option maxRecDepth 10000 in
set_option maxHeartbeats 400000 in
theorem new_anyM (w : World) :
    Calls Tryd.prog 52 #[] w fun e w' => ∃ g, e = .returned (.pointer (some ⟨g, 0, none⟩)) ∧ g = w.heap.size ∧ CB w' g 104 (hcells newH.ws newH.bl newH.c) ∧ w.grownBy w' none := by
  go_enter Tryd.func52, Tryd.ntmps52
  have hz := zeroH w
  have hl : (hcells (wz 8) (zeros 64) 0).length = 73 := rfl
  obtain ⟨Z, hZ⟩ : ∃ Z, Z = hcells (wz 8) (zeros 64) 0 := ⟨_, rfl⟩
  rw [← hZ] at hz hl
  have HZ := Lib.hid hZ
  clear hZ
  go_wp2
  have hb : CB (w.alloc (.cells (hcells newH.ws newH.bl newH.c).toArray 104)) w.heap.size 104 (hcells newH.ws newH.bl newH.c) := CB.new _ _ _
  have hc : (hcells newH.ws newH.bl newH.c) = (((((((Z.set 0 (.int .u32 1779033703)).set 1 (.int .u32 3144134277)).set 2 (.int .u32 1013904242)).set 3 (.int .u32 2773480762)).set 4 (.int .u32 1359893119)).set 5 (.int .u32 2600822924)).set 6 (.int .u32 528734635)).set 7 (.int .u32 1541459225) := by rw [HZ.out]; rfl
  rw [hc] at hb
  go_ret
  exact ⟨w.heap.size, rfl, rfl, hc ▸ hb, grown_alloc _ _ _⟩
end Go.Proofs.YtaanhancjmigdaaDoor
