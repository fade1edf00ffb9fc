/- The walks of word and putWord. -/
import Derived.Test.YtndnmjolcilamaaDoorLf
import Derived.Test.YtndnmjolcilamaaDoorCb
namespace Go.Proofs.YtndnmjolcilamaaDoor
open Go.RowKit

/-- The word of four bytes. -/
def wordOf (a b c d : UInt8) : UInt32 := UInt32.ofNat (a.toNat * 16777216 + b.toNat * 65536 + c.toNat * 256 + d.toNat)
theorem ofNat_toNat32 (n : Nat) (h : n < 4294967296) : (UInt32.ofNat n).toNat = n := by rw [UInt32.toNat_ofNat']; exact Nat.mod_eq_of_lt h
theorem or_disjoint (x y k : Nat) (hy : y < 2 ^ k) : 2 ^ k * x ||| y = 2 ^ k * x + y := (Nat.two_pow_add_eq_or_of_lt hy x).symm
theorem or_nat (x y : Nat) (hx : x < 4294967296) (hy : y < 4294967296) : bits .or .u32 (x : Int) (y : Int) = ((x ||| y : Nat) : Int) := by
  have h := or_u32 (UInt32.ofNat x) (UInt32.ofNat y)
  rw [UInt32.toNat_or, ofNat_toNat32 x hx, ofNat_toNat32 y hy] at h
  exact h
theorem word_bits1 (a b : UInt8) : bits .or .u32 ((a.toNat : Int) * 16777216) ((b.toNat : Int) * 65536) = ((a.toNat * 16777216 + b.toNat * 65536 : Nat) : Int) := by
  have ha := a.toNat_lt
  have hb := b.toNat_lt
  have h := or_nat (a.toNat * 16777216) (b.toNat * 65536) (by omega) (by omega)
  have hd := or_disjoint a.toNat (b.toNat * 65536) 24 (by omega)
  rw [show 2 ^ 24 * a.toNat = a.toNat * 16777216 by omega] at hd
  rw [hd] at h
  rw [← h, show (a.toNat : Int) * 16777216 = ((a.toNat * 16777216 : Nat) : Int) by omega, show (b.toNat : Int) * 65536 = ((b.toNat * 65536 : Nat) : Int) by omega]
theorem word_bits2 (a b c : UInt8) : bits .or .u32 ((a.toNat * 16777216 + b.toNat * 65536 : Nat) : Int) ((c.toNat : Int) * 256) = ((a.toNat * 16777216 + b.toNat * 65536 + c.toNat * 256 : Nat) : Int) := by
  have ha := a.toNat_lt
  have hb := b.toNat_lt
  have hc := c.toNat_lt
  have h := or_nat (a.toNat * 16777216 + b.toNat * 65536) (c.toNat * 256) (by omega) (by omega)
  have hd := or_disjoint (a.toNat * 256 + b.toNat) (c.toNat * 256) 16 (by omega)
  rw [show 2 ^ 16 * (a.toNat * 256 + b.toNat) = a.toNat * 16777216 + b.toNat * 65536 by omega] at hd
  rw [hd] at h
  rw [← h, show (c.toNat : Int) * 256 = ((c.toNat * 256 : Nat) : Int) by omega]
theorem word_bits3 (a b c d : UInt8) : bits .or .u32 ((a.toNat * 16777216 + b.toNat * 65536 + c.toNat * 256 : Nat) : Int) (d.toNat : Int) = ((wordOf a b c d).toNat : Int) := by
  have ha := a.toNat_lt
  have hb := b.toNat_lt
  have hc := c.toNat_lt
  have hd := d.toNat_lt
  have h := or_nat (a.toNat * 16777216 + b.toNat * 65536 + c.toNat * 256) d.toNat (by omega) (by omega)
  have hs := or_disjoint (a.toNat * 65536 + b.toNat * 256 + c.toNat) d.toNat 8 (by omega)
  rw [show 2 ^ 8 * (a.toNat * 65536 + b.toNat * 256 + c.toNat) = a.toNat * 16777216 + b.toNat * 65536 + c.toNat * 256 by omega] at hs
  rw [h, hs, wordOf, ofNat_toNat32 _ (by omega)]

theorem word_steps (a b c d : UInt8) : ∃ x y : Int, bits .or .u32 ((a.toNat : Int) * 16777216) ((b.toNat : Int) * 65536) = x ∧ bits .or .u32 x ((c.toNat : Int) * 256) = y ∧ bits .or .u32 y (d.toNat : Int) = ((wordOf a b c d).toNat : Int) :=
  ⟨_, _, word_bits1 a b, word_bits2 a b c, word_bits3 a b c d⟩
theorem word_any (g off n cap : Nat) (a b c d : UInt8) (w : World) (hn : 4 ≤ n)
    (c0 : w.cell? ⟨g, off, none⟩ = some (.int .u8 (a.toNat : Int))) (c1 : w.cell? ⟨g, off + 1, none⟩ = some (.int .u8 (b.toNat : Int)))
    (c2 : w.cell? ⟨g, off + 2, none⟩ = some (.int .u8 (c.toNat : Int))) (c3 : w.cell? ⟨g, off + 3, none⟩ = some (.int .u8 (d.toNat : Int))) :
    Calls Tryd.prog 96 #[.slice (some ⟨g, off, none⟩) n cap] w fun e w' => e = .returned (.int .u32 ((wordOf a b c d).toNat : Int)) ∧ w.grownBy w' none := by
  obtain ⟨x, y, h1, h2, h3⟩ := word_steps a b c d
  have ha := a.toNat_lt
  have hb := b.toNat_lt
  have hc := c.toNat_lt
  have hd := d.toNat_lt
  have e1 : (a.toNat : Int) * 16777216 % 4294967296 = (a.toNat : Int) * 16777216 := by omega
  have e2 : (b.toNat : Int) * 65536 % 4294967296 = (b.toNat : Int) * 65536 := by omega
  have e3 : (c.toNat : Int) * 256 % 4294967296 = (c.toNat : Int) * 256 := by omega
  have i0 : (0 : Int) < (n : Int) := by omega
  have i1 : (1 : Int) < (n : Int) := by omega
  have i2 : (2 : Int) < (n : Int) := by omega
  have i3 : (3 : Int) < (n : Int) := by omega
  go_enter Tryd.func96, Tryd.ntmps96
  go_wp2
  go_quiet (fail)
  go_wp2
  go_ret
  exact ⟨rfl, ⟨rfl, rfl, rfl, Nat.le_refl _, fun _ _ _ => rfl⟩⟩

/-- The four bytes of a word. -/
def bytesOf (x : UInt32) : List UInt8 := [UInt8.ofNat (x.toNat / 16777216), UInt8.ofNat (x.toNat / 65536), UInt8.ofNat (x.toNat / 256), UInt8.ofNat x.toNat]
theorem bytesOf_length (x : UInt32) : (bytesOf x).length = 4 := rfl
theorem bcells_four (a b c d : UInt8) : bcells [a, b, c, d] = [.int .u8 (a.toNat : Int), .int .u8 (b.toNat : Int), .int .u8 (c.toNat : Int), .int .u8 (d.toNat : Int)] := rfl
theorem bytesOf_cells (x : UInt32) : ∃ y0 y1 y2 y3 : Nat, bcells (bytesOf x) = [.int .u8 (y0 : Int), .int .u8 (y1 : Int), .int .u8 (y2 : Int), .int .u8 (y3 : Int)] ∧
    (x.toNat : Int) / 16777216 = (y0 : Int) ∧ (x.toNat : Int) / 65536 % 256 = (y1 : Int) ∧ (x.toNat : Int) / 256 % 256 = (y2 : Int) ∧ (x.toNat : Int) % 256 = (y3 : Int) :=
  ⟨_, _, _, _, bcells_four _ _ _ _, by have := x.toNat_lt; simp; omega, by simp, by simp, by simp⟩
theorem over_four (cs : List Value) (off : Nat) (a b c d : Value) (h : off + 4 ≤ cs.length) : (((cs.set off a).set (off + 1) b).set (off + 2) c).set (off + 3) d = over cs off [a, b, c, d] := by
  apply List.ext_getElem?
  intro i
  rw [over]
  simp only [List.getElem?_set, List.length_set, List.append_assoc]
  by_cases h1 : i < off
  · rw [List.getElem?_append_left (by rw [List.length_take]; omega), List.getElem?_take_of_lt h1]
    rw [if_neg (by omega), if_neg (by omega), if_neg (by omega), if_neg (by omega)]
  · rw [List.getElem?_append_right (by rw [List.length_take]; omega), List.length_take, Nat.min_eq_left (by omega)]
    rcases (by omega : i = off ∨ i = off + 1 ∨ i = off + 2 ∨ i = off + 3 ∨ off + 4 ≤ i) with rfl | rfl | rfl | rfl | h4
    · simp; omega
    · simp; omega
    · simp; omega
    · simp; omega
    · rw [if_neg (by omega), if_neg (by omega), if_neg (by omega), if_neg (by omega), List.getElem?_append_right (by simp; omega), List.getElem?_drop]
      congr 1
      simp
      omega

theorem sz8 : (Tryd.prog.info? 5).map (·.size) = some 1 := by kernel_rfl

set_option maxHeartbeats 1000000 in
theorem putWord_any (g off n cap : Nat) (t : TypeId) (cs : List Value) (x : UInt32) (w : World) (hn : 4 ≤ n) (h : CB w g t cs) (hl : off + 4 ≤ cs.length) :
    Calls Tryd.prog 72 #[.slice (some ⟨g, off, none⟩) n cap, .int .u32 (x.toNat : Int)] w fun e w' => e = .returned (.tuple #[]) ∧ CB w' g t (over cs off (bcells (bytesOf x))) ∧ w.grownBy w' (some g) := by
  have hb := x.toNat_lt
  have H := Lib.hid h
  have l0 : off < cs.length := by omega
  have l1 : ∀ a, off + 1 < (cs.set off a).length := fun a => by rw [List.length_set]; omega
  have l2 : ∀ a b, off + 2 < ((cs.set off a).set (off + 1) b).length := fun a b => by rw [List.length_set, List.length_set]; omega
  have l3 : ∀ a b c, off + 3 < (((cs.set off a).set (off + 1) b).set (off + 2) c).length := fun a b c => by rw [List.length_set, List.length_set, List.length_set]; omega
  have L0 := Lib.hid l0
  have L1 := Lib.hid l1
  have L2 := Lib.hid l2
  have L3 := Lib.hid l3
  clear l0 l1 l2 l3
  have i0 : (0 : Int) < (n : Int) := by omega
  have i1 : (1 : Int) < (n : Int) := by omega
  have i2 : (2 : Int) < (n : Int) := by omega
  have i3 : (3 : Int) < (n : Int) := by omega
  obtain ⟨y0, y1, y2, y3, hy, hb0, hb1, hb2, hb3⟩ := bytesOf_cells x
  rw [hy]
  clear hy
  have HR : Hid (∀ w' : World, CB w' g t ((((cs.set off (.int .u8 (y0 : Int))).set (off + 1) (.int .u8 (y1 : Int))).set (off + 2) (.int .u8 (y2 : Int))).set (off + 3) (.int .u8 (y3 : Int))) → CB w' g t (over cs off [.int .u8 (y0 : Int), .int .u8 (y1 : Int), .int .u8 (y2 : Int), .int .u8 (y3 : Int)])) := fun w' h => by
    rw [over_four _ _ _ _ _ _ hl] at h
    exact h
  clear h
  clear hl hn
  go_enter Tryd.func72, Tryd.ntmps72
  go_wp2_with (first
    | (refine wpList_setC sz8 rfl (.tmp 19) (.tmp 10) rfl .u8 y0 H.out L0.out rfl rfl ?_; intro w1 h1 g1; have H1 := Lib.hid h1; have G1 := Lib.hid g1; clear h1 g1)
    | (refine wpList_setC sz8 rfl (.tmp 20) (.tmp 13) rfl .u8 y1 H1.out (L1.out _) rfl rfl ?_; intro w2 h2 g2; have H2 := Lib.hid h2; have G2 := Lib.hid (grown_trans' G1.out g2); clear h2 g2)
    | (refine wpList_setC sz8 rfl (.tmp 21) (.tmp 16) rfl .u8 y2 H2.out (L2.out _ _) rfl rfl ?_; intro w3 h3 g3; have H3 := Lib.hid h3; have G3 := Lib.hid (grown_trans' G2.out g3); clear h3 g3)
    | (refine wpList_setC sz8 rfl (.tmp 22) (.tmp 18) rfl .u8 y3 H3.out (L3.out _ _ _) rfl rfl ?_; intro w4 h4 g4; have H4 := Lib.hid (HR.out _ h4); have G4 := Lib.hid (grown_trans' G3.out g4); clear h4 g4))
  go_end0
  exact ⟨rfl, H4.out, G4.out⟩
end Go.Proofs.YtndnmjolcilamaaDoor
