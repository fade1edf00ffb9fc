/- The walk of Split of tlv. -/
import Derived.Test.YtnfmbgmncdodkaaDoorOwnF
namespace Go.Proofs.YtnfmbgmncdodkaaDoor
open Go.RowKit

theorem fieldT : FieldT Tryd.prog 60 64 := ⟨Tryd.underlying60, by kernel_rfl⟩

def splitF : Nat → List UInt8 → List Fd → List Fd × Int
  | 0, _, acc => (acc, 0)
  | f + 1, l, acc => if l = [] then (acc, 0) else if (firstOf l).2.2 = 0 then splitF f (firstOf l).2.1 (acc ++ [(firstOf l).1]) else ([], (firstOf l).2.2)
/-- What Split answers. -/
def splitOf (l : List UInt8) : List Fd × Int := splitF l.length l []

theorem firstOf_shorter (l : List UInt8) (h : (firstOf l).2.2 = 0) : (firstOf l).2.1.length < l.length := by
  unfold firstOf at h ⊢
  split
  · next h1 => rw [if_pos h1] at h; simp at h
  · next h1 =>
    rw [if_neg h1] at h
    split
    · next h2 => rw [if_pos h2] at h; simp at h
    · next h2 =>
      rw [if_neg h2] at h
      split
      · next h3 => rw [if_pos h3] at h; simp at h
      · simp; omega
theorem firstOf_byte (l : List UInt8) : 0 ≤ (firstOf l).1.1 ∧ (firstOf l).1.1 < 256 := by
  unfold firstOf
  split
  · simp
  · split
    · simp
    · split
      · simp
      · have := (l.headD 0).toNat_lt
        exact ⟨Int.natCast_nonneg _, Int.ofNat_lt.2 this⟩
theorem firstOf_err (l : List UInt8) : (firstOf l).2.2 = 0 ∨ (firstOf l).2.2 = 20 ∨ (firstOf l).2.2 = 21 := by
  unfold firstOf
  split
  · simp
  · split
    · simp
    · split <;> simp

set_option maxHeartbeats 1000000 in
theorem split_any (A : Option Addr) (l : List UInt8) (cap n : Nat) (w : World) (hn : l.length = n) (h : RB w w.heap.size A l cap) (hl : n ≤ 1000000000000) :
    Calls Tryd.prog 21 #[.slice A n cap] w fun e w' => ∃ v, e = .returned (.tuple #[v, .int .i64 (splitOf l).2]) ∧ OwnF w' w.heap.size 64 5 v (splitOf l).1 ∧ Below w.heap.size w w' := by
  subst hn
  have H := Lib.hid h
  clear h
  go_enter Tryd.func21, Tryd.ntmps21
  go_wp2
  go_loopw [0, 4] (fun d v wr => ∃ (f : Nat) (rest : List UInt8) (acc : List Fd) (R : Option Addr) (rc : Nat), d = .slice R rest.length rc ∧ RB w w.heap.size R rest rc ∧ OwnF wr w.heap.size 64 5 v acc ∧ Below w.heap.size w wr ∧
    splitOf l = splitF f rest acc ∧ rest.length ≤ f ∧ acc.length + rest.length ≤ l.length) (fun d _ _ => match d with | .slice _ n _ => n | _ => 0)
  case atStart => exact ⟨l.length, l, [], A, cap, rfl, H.out, OwnF.nil_ _ _ _ _, Below.refl _ _, rfl, Nat.le_refl _, by simp⟩
  case round =>
    obtain ⟨f, rest, acc, R, rc, rfl, hR, hown, hbel, hs, hf, hlen⟩ := hrel
    have hbs := hbel.size
    by_cases h0 : rest = []
    · subst h0
      have hsv : splitOf l = (acc, 0) := by rw [hs]; cases f <;> simp [splitF]
      have HS := Lib.hid hsv
      have HO := Lib.hid hown
      clear hs hsv hown hR
      go_wp2
      go_ret2
      exact ⟨_, by rw [HS.out]; rfl, by rw [HS.out]; exact HO.out, hbel⟩
    have hp : 0 < rest.length := List.length_pos_iff.2 h0
    obtain ⟨g, rfl⟩ : ∃ g, f = g + 1 := ⟨f - 1, by omega⟩
    have hpi : (0 : Int) < (rest.length : Int) := by omega
    have HF := Lib.hid (first_any R rest rc w.heap.size wr (hR.below hbel) hbs hp (by omega))
    by_cases he : (firstOf rest).2.2 = 0
    · have hsh := firstOf_shorter rest he
      have hby := firstOf_byte rest
      have HS : Hid (splitOf l = splitF g (firstOf rest).2.1 (acc ++ [(firstOf rest).1])) := by unfold Hid; rw [hs, splitF, if_neg h0, if_pos he]
      rw [he] at HF
      generalize hfv : (firstOf rest).1 = fv at *
      generalize hrv : (firstOf rest).2.1 = rv at *
      have HO := Lib.hid hown
      have HR := Lib.hid hR
      have HB := Lib.hid hbel
      have HFV := Lib.hid hfv
      have HRV := Lib.hid hrv
      clear hs he hown hR hbel hfv hrv h0
      go_wp2_with fail
      refine HF.out.mono ?_
      rintro e w1 ⟨V, c, R', rc', rfl, hV, hR', hb1⟩
      have HV := Lib.hid hV
      have HR' := Lib.hid hR'
      clear hV hR' HF
      have hb1' := Lib.hid hb1
      have hs1 := hb1.size
      go_wp2_with (at_builtin; refine wpList_appF fieldT (by decide) rfl (.tmp 20) (.tmp 22) rfl (f := fv) (u := .slice V fv.2.length c) (ad := ⟨w1.heap.size + 1, 0, none⟩) (OwnF.below HO.out ?gb) ?gu ?g0 ?g1 rfl rfl ?gl ?gs ?_; rotate_left 6; intro v2 w2 hown2 hg2 hat2)
      go_roundw
      case rel =>
        have hw2 : Below w.heap.size w w2 := (((HB.out.trans (hb1'.out.mono hbs)).alloc (by omega) _).alloc (by simp; omega) _).grown hg2 (by simp; omega) (fun k hk => (HO.out.lt k hk).1)
        refine ⟨g, rv, acc ++ [fv], R', rc', rfl, ?_, hown2, hw2, HS.out, by omega, by simp; omega⟩
        exact HR'.out.keep fun a ha => ((HB.out.cell ha).symm)
      case measure => show rv.length < rest.length; omega
      case gb => exact Below.trans hb1'.out (((Below.refl _ _).alloc hs1 _).alloc (by simp; omega) _)
      case gu => exact ((HV.out.base_ hbs).alloc _).alloc _
      case g0 => simp [go_sem]
      case g1 => simp [go_sem, Addr.add]
      case gl => omega
      case gs => simp; omega
    · have HS : Hid (splitOf l = ([], (firstOf rest).2.2)) := by unfold Hid; rw [hs, splitF, if_neg h0, if_neg he]
      have hne : ((firstOf rest).2.2 == 0) = false := by rw [beq_eq_false_iff_ne]; exact he
      generalize (firstOf rest).2.2 = ev at *
      generalize (firstOf rest).1 = fv at *
      generalize (firstOf rest).2.1 = rv at *
      have HO := Lib.hid hown
      have HB := Lib.hid hbel
      clear hs he hown hR hbel h0
      go_wp2_with fail
      refine HF.out.mono ?_
      rintro e w1 ⟨V, c, R', rc', rfl, hV, hR', hb1⟩
      clear hV hR' HF
      go_wp2
      go_ret2
      exact ⟨_, by rw [HS.out]; rfl, by rw [HS.out]; exact OwnF.nil_ _ _ _ _, (HB.out.trans (hb1.mono hbs)).alloc (Nat.le_trans hbs hb1.size) _⟩
end Go.Proofs.YtnfmbgmncdodkaaDoor
