/- Slices of fields in memory, and the walks of Join of tlv and of the document's answer. -/
import Derived.Test.YtfpcabfpnekejaaDoorNumW
import Derived.Deep.QuietTactic
namespace Go.Proofs.YtfpcabfpnekejaaDoor
open Go.RowKit

/-- A field: its tag, its value's bytes. -/
abbrev Fd := Int × List UInt8

/-- The slice at A reads as the fields fs, each value a slice that reads as its bytes; all in blocks below B. -/
def RF (w : World) (B : Nat) (A : Option Addr) (fs : List Fd) (cap : Nat) : Prop :=
  fs.length ≤ cap ∧ cap ≤ maxLen ∧ ((A = none ∧ cap = 0) ∨ ∃ a, A = some a ∧ ∀ k f, fs[k]? = some f → a.block < B ∧
    w.cell? (a.add (2 * k)) = some (.int .i64 f.1) ∧ ∃ V c, w.cell? (a.add (2 * k + 1)) = some (.slice V f.2.length c) ∧ RB w B V f.2 c)

section
variable {w w' : World} {B B' cap : Nat} {A : Option Addr} {fs : List Fd}
theorem RF.nil_ (w : World) (B : Nat) : RF w B none [] 0 := ⟨Nat.le_refl _, Nat.zero_le _, .inl ⟨rfl, rfl⟩⟩
theorem RF.keep (h : RF w B A fs cap) (hk : ∀ a : Addr, a.block < B → w'.cell? a = w.cell? a) : RF w' B A fs cap :=
  ⟨h.1, h.2.1, h.2.2.imp id fun ⟨a, hA, hc⟩ => ⟨a, hA, fun k f hf => by
    obtain ⟨hb, h1, V, c, h2, h3⟩ := hc k f hf
    exact ⟨hb, (hk _ (by rw [add_block]; exact hb)).trans h1, V, c, (hk _ (by rw [add_block]; exact hb)).trans h2, h3.keep hk⟩⟩⟩
theorem RF.more (h : RF w B A fs cap) (hB : B ≤ B') : RF w B' A fs cap :=
  ⟨h.1, h.2.1, h.2.2.imp id fun ⟨a, hA, hc⟩ => ⟨a, hA, fun k f hf => by
    obtain ⟨hb, h1, V, c, h2, h3⟩ := hc k f hf
    exact ⟨Nat.lt_of_lt_of_le hb hB, h1, V, c, h2, h3.more hB⟩⟩⟩
theorem RF.below (h : RF w B A fs cap) (hb : Below B w w') : RF w' B A fs cap := h.keep fun _ hlt => hb.cell hlt
theorem RF.open_ (h : RF w B A fs cap) (hp : 0 < fs.length) :
    ∃ b off, A = some ⟨b, off, none⟩ ∧ b < B ∧ ∀ k f, fs[k]? = some f → w.cell? ⟨b, off + k * 2, none⟩ = some (.int .i64 f.1) ∧
      ∃ V c, w.cell? ⟨b, off + k * 2 + 1, none⟩ = some (.slice V f.2.length c) ∧ RB w B V f.2 c := by
  rcases h.2.2 with ⟨_, h0⟩ | ⟨⟨b, off, s⟩, hA, hc⟩
  · have := h.1; omega
  · have hb := (hc 0 _ (List.getElem?_eq_getElem hp)).1
    have h0 := (hc 0 _ (List.getElem?_eq_getElem hp)).2.1
    have hs : s = none := by simpa [Addr.add] using World.cell?_spot h0
    subst hs
    refine ⟨b, off, hA, hb, fun k f hf => ?_⟩
    have := (hc k f hf).2
    rw [Addr.add_lit, Addr.add_lit, Nat.mul_comm 2 k, ← Nat.add_assoc] at this
    exact this
end

def chk (f : Fd) : Int := if f.1 < 1 ∨ 255 < f.1 then 1 else if 65535 < f.2.length then 23 else 0
def fieldB (f : Fd) : List UInt8 := [UInt8.ofNat f.1.toNat, UInt8.ofNat (f.2.length / 256), UInt8.ofNat f.2.length] ++ f.2
/-- What Join answers: the bytes, or the number of the error. -/
def joinOf : List Fd → List UInt8 → List UInt8 × Int
  | [], acc => (acc, 0)
  | f :: fs, acc => if chk f = 0 then joinOf fs (acc ++ fieldB f) else ([], chk f)
/-- How many bytes fields take. -/
def tot (fs : List Fd) : Nat := (fs.map fun f => f.2.length + 3).sum

theorem fieldB_length (f : Fd) : (fieldB f).length = f.2.length + 3 := by simp [fieldB]

set_option maxHeartbeats 400000 in
theorem check_any (t : Int) (V : Option Addr) (v : List UInt8) (c : Nat) (w : World) (ht : -9223372036854775808 ≤ t ∧ t ≤ 9223372036854775807) (hv : v.length ≤ 9223372036854775807) :
    Calls Tryd.prog 71 #[.agg #[.int .i64 t, .slice V v.length c]] w fun e w' => e = .returned (.int .i64 (chk (t, v))) ∧ Below w.heap.size w w' := by
  obtain ⟨ht1, ht2⟩ := ht
  by_cases h1 : t < 1
  · have hr : chk (t, v) = 1 := by simp [chk]; omega
    rw [hr]
    go_enter Tryd.func71, Tryd.ntmps71
    go_wp2
    go_ret
    exact ⟨rfl, (Below.refl _ _).alloc (Nat.le_refl _) _⟩
  by_cases h2 : 255 < t
  · have hr : chk (t, v) = 1 := by simp [chk]; omega
    rw [hr]
    go_enter Tryd.func71, Tryd.ntmps71
    go_wp2
    go_ret
    exact ⟨rfl, (Below.refl _ _).alloc (Nat.le_refl _) _⟩
  by_cases h3 : 65535 < v.length
  · have hr : chk (t, v) = 23 := by simp [chk]; omega
    rw [hr]
    go_enter Tryd.func71, Tryd.ntmps71
    go_wp2
    go_ret
    exact ⟨rfl, (Below.refl _ _).alloc (Nat.le_refl _) _⟩
  · have hr : chk (t, v) = 0 := by simp [chk]; omega
    rw [hr]
    go_enter Tryd.func71, Tryd.ntmps71
    go_wp2
    go_ret
    exact ⟨rfl, (Below.refl _ _).alloc (Nat.le_refl _) _⟩

set_option maxHeartbeats 400000 in
theorem join_any (A : Option Addr) (fs : List Fd) (cap : Nat) (w : World) (h : RF w w.heap.size A fs cap) (ht : ∀ f ∈ fs, -9223372036854775808 ≤ f.1 ∧ f.1 ≤ 9223372036854775807) (hs : tot fs ≤ 1000000000) :
    Calls Tryd.prog 52 #[.slice A fs.length cap] w fun e w' => ∃ v, e = .returned (.tuple #[v, .int .i64 (joinOf fs []).2]) ∧ OwnB w' w.heap.size 5 v (joinOf fs []).1 ∧ Below w.heap.size w w' := by
  have hl : fs.length ≤ 9223372036854775807 := Nat.le_trans h.1 h.2.1
  have H := Lib.hid h
  clear h
  go_enter Tryd.func52, Tryd.ntmps52
  go_wp2
  go_loopw [4, 11] (fun v i wr => ∃ (k : Nat) (acc : List UInt8), i = .int .i64 k ∧ k ≤ fs.length ∧ OwnB wr w.heap.size 5 v acc ∧ Below w.heap.size w wr ∧ joinOf fs [] = joinOf (fs.drop k) acc ∧ acc.length + tot (fs.drop k) ≤ tot fs) (fun _ i _ => fs.length - (intOf i).toNat)
  case atStart => exact ⟨0, [], rfl, Nat.zero_le _, OwnB.nil_ _ _ _, Below.refl _ _, rfl, by simp⟩
  case round =>
    obtain ⟨k, acc, rfl, hk, hown, hbel, hj, htot⟩ := hrel
    by_cases hlt : k < fs.length
    · obtain ⟨f, hf⟩ : ∃ f, fs[k]? = some f := ⟨_, List.getElem?_eq_getElem hlt⟩
      obtain ⟨b, off, rfl, hb, hc⟩ := H.out.open_ (by omega)
      obtain ⟨hc1, V, c, hc2, hV⟩ := hc k f hf
      have hd : fs.drop k = f :: fs.drop (k + 1) := by rw [List.drop_eq_getElem_cons hlt]; congr 1; rw [List.getElem?_eq_getElem hlt] at hf; injection hf
      rw [hd] at hj htot
      have hfr := ht f (List.mem_of_getElem? hf)
      have k1 := (hbel.cell (p := ⟨b, off + k * 2, none⟩) hb).trans hc1
      have k2 := (hbel.cell (p := ⟨b, off + k * 2 + 1, none⟩) hb).trans hc2
      have hvl : f.2.length ≤ 1000000000 := by simp [tot] at htot; unfold tot at hs; omega
      have HJ := Lib.hid hj
      have HT := Lib.hid htot
      have HF := Lib.hid hf
      have HO := Lib.hid hown
      have HB := Lib.hid hbel
      clear hj htot hf hown hc hc1 hc2 hd ht
      obtain ⟨t, vb⟩ := f
      simp only at k1 k2 hV hfr hvl
      by_cases hch : chk (t, vb) = 0
      · have HJ' : Hid (joinOf fs [] = joinOf (fs.drop (k + 1)) (acc ++ [UInt8.ofNat t.toNat, UInt8.ofNat (vb.length / 256), UInt8.ofNat vb.length] ++ vb)) := by unfold Hid; rw [HJ.out, joinOf, if_pos hch, fieldB, ← List.append_assoc]
        have hch2 : 1 ≤ t ∧ t ≤ 255 ∧ vb.length ≤ 65535 := by unfold chk at hch; simp only at hch; split at hch <;> first | omega | (split at hch <;> omega)
        obtain ⟨ht1, ht2, ht3⟩ := hch2
        have hca := fun wx => check_any t V vb c wx (by omega) (by omega)
        rw [hch] at hca
        clear HJ hch
        have hbs := hbel.size
        have hT := HT.out
        have htd : tot fs ≤ 1000000000 := hs
        have hacc : acc.length + vb.length + 3 ≤ 1000000000 := by simp [tot] at hT; unfold tot at htd; omega
        have HCA := Lib.hid hca
        clear hT htd hca
        have hnr := fun he => absurd (b := False) (HO.out.lt wr.heap.size he).2 (Nat.lt_irrefl _)
        go_wp2_with (first
          | (go_at_call 71
             refine (HCA.out _).mono ?_
             rintro e w1 ⟨rfl, hb1⟩
             have e1 := (hb1.cell (p := ⟨wr.heap.size, 0, none⟩) (by simp)).trans (cell_of_row _ wr.heap.size 0 _ _ _ (heap_alloc_new wr _))
             have e2 := (hb1.cell (p := ⟨wr.heap.size, 1, none⟩) (by simp)).trans (cell_of_row _ wr.heap.size 1 _ _ _ (heap_alloc_new wr _))
             simp at e1 e2
             have hbw1 := Lib.hid ((HB.out.alloc hbs _).trans (hb1.mono (by simp; omega)))
             have hs1 : wr.heap.size < w1.heap.size := by have := hb1.size; simp at this; omega)
          | (at_builtin
             refine wpList_appB byteT rfl (.tmp 23) (.tmp 32) rfl (OwnB.alloc (HO.out.below (Below.trans ((Below.refl _ _).alloc (Nat.le_refl _) _) (hb1.mono (by simp)))) _) (RB.new3 _ _ (UInt8.ofNat t.toNat) (UInt8.ofNat (vb.length / 256)) (UInt8.ofNat vb.length) _ _ _ ?ga ?gb ?gc _ (Nat.lt_succ_self _)) rfl rfl ?gd ?ge ?_
             rotate_left 5
             intro v2 w2 hown2 hg2 _ hat2
             have e3 := hg2.cell (cell_alloc e2 _) (fun he => hnr he.symm)
             have hbw2 := Lib.hid (((hbw1.out.alloc (Nat.le_of_lt (Nat.lt_of_le_of_lt hbs hs1)) _).grown hg2 (by simp; omega) (fun k hk => (HO.out.lt k hk).1)))
             have HO2 := Lib.hid hown2
             clear hown2)
          | (at_builtin
             refine wpList_appB byteT rfl (.tmp 34) (.tmp 36) rfl HO2.out (hV.below hbw2.out) rfl rfl ?gd2 ?ge2 ?_
             rotate_left 2
             intro v3 w3 hown3 hg3 _ hat3))
        go_roundw
        case rel =>
          refine ⟨k + 1, _, by go_num, by omega, hown3, hbw2.out.grown hg3 hbw2.out.size (fun k hk => (HO2.out.lt k hk).1), HJ'.out, ?_⟩
          have := HT.out
          simp [tot] at this ⊢
          omega
        case measure => simp [intOf]; omega
        case ga => exact u8_of (by omega)
        case gb => exact u8_of (by omega)
        case gc => exact u8_of (by omega)
        case gd => simp; omega
        case ge => simp; omega
        case gd2 => simp; omega
        case ge2 => exact hbw2.out.size
      · have HJ' : Hid (joinOf fs [] = ([], chk (t, vb))) := by unfold Hid; rw [HJ.out, joinOf, if_neg hch]
        have hne : (chk (t, vb) == 0) = false := by rw [beq_eq_false_iff_ne]; exact hch
        have hca := fun wx => check_any t V vb c wx hfr (by omega)
        have HCA := Lib.hid hca
        generalize chk (t, vb) = ec at *
        have hbs := hbel.size
        clear hca HJ
        go_wp2_with (go_at_call 71; refine (HCA.out _).mono ?_; rintro e w1 ⟨rfl, hb1⟩; have hbw1 := Lib.hid ((HB.out.alloc hbs _).trans (hb1.mono (by simp; omega))))
        go_ret2
        exact ⟨_, by rw [HJ'.out]; rfl, by rw [HJ'.out]; exact OwnB.nil_ _ _ _, hbw1.out⟩
    · have hd : fs.drop k = [] := List.drop_eq_nil_of_le (by omega)
      rw [hd] at hj
      have HJ := Lib.hid hj
      have HO := Lib.hid hown
      clear hj hown hd htot ht
      go_wp2
      go_ret2
      exact ⟨_, by rw [HJ.out]; rfl, by rw [HJ.out]; exact HO.out, hbel⟩
end Go.Proofs.YtfpcabfpnekejaaDoor
