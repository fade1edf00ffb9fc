/- The document's words, packed: what each of its regions computes. -/
import Derived.Test.YtndnmjolcilamaaDoorRsp
namespace Go.Proofs.YtndnmjolcilamaaDoor
open Go.RowKit

theorem early_pack (x : UInt32) : ∃ ra rb y z : UInt32, z = sEarly x ∧ (∀ W, Calls Tryd.prog 62 #[.int .u32 (x.toNat : Int), .int .i64 7] W fun e w' => e = .returned (.int .u32 (ra.toNat : Int)) ∧ W = w') ∧ (∀ W, Calls Tryd.prog 62 #[.int .u32 (x.toNat : Int), .int .i64 18] W fun e w' => e = .returned (.int .u32 (rb.toNat : Int)) ∧ W = w') ∧ bits .xor .u32 (ra.toNat : Int) (rb.toNat : Int) = (y.toNat : Int) ∧ bits .xor .u32 (y.toNat : Int) ((x.toNat : Int) / 8) = (z.toNat : Int) := by
  refine ⟨rotr x 7, rotr x 18, rotr x 7 ^^^ rotr x 18, _, rfl, fun W => refRot7_any x W, fun W => refRot18_any x W, xor_u32 _ _, ?_⟩
  have h0 := shr_u32 x 3 8 (by decide) (by decide)
  have h2 := xor_u32 (rotr x 7 ^^^ rotr x 18) (x >>> UInt32.ofNat 3)
  rw [← h0] at h2
  exact h2
theorem late_pack (x : UInt32) : ∃ ra rb y z : UInt32, z = sLate x ∧ (∀ W, Calls Tryd.prog 62 #[.int .u32 (x.toNat : Int), .int .i64 17] W fun e w' => e = .returned (.int .u32 (ra.toNat : Int)) ∧ W = w') ∧ (∀ W, Calls Tryd.prog 62 #[.int .u32 (x.toNat : Int), .int .i64 19] W fun e w' => e = .returned (.int .u32 (rb.toNat : Int)) ∧ W = w') ∧ bits .xor .u32 (ra.toNat : Int) (rb.toNat : Int) = (y.toNat : Int) ∧ bits .xor .u32 (y.toNat : Int) ((x.toNat : Int) / 1024) = (z.toNat : Int) := by
  refine ⟨rotr x 17, rotr x 19, rotr x 17 ^^^ rotr x 19, _, rfl, fun W => refRot17_any x W, fun W => refRot19_any x W, xor_u32 _ _, ?_⟩
  have h0 := shr_u32 x 10 1024 (by decide) (by decide)
  have h2 := xor_u32 (rotr x 17 ^^^ rotr x 19) (x >>> UInt32.ofNat 10)
  rw [← h0] at h2
  exact h2
theorem low_pack (x : UInt32) : ∃ ra rb rc y z : UInt32, z = sLow x ∧ (∀ W, Calls Tryd.prog 62 #[.int .u32 (x.toNat : Int), .int .i64 6] W fun e w' => e = .returned (.int .u32 (ra.toNat : Int)) ∧ W = w') ∧ (∀ W, Calls Tryd.prog 62 #[.int .u32 (x.toNat : Int), .int .i64 11] W fun e w' => e = .returned (.int .u32 (rb.toNat : Int)) ∧ W = w') ∧ (∀ W, Calls Tryd.prog 62 #[.int .u32 (x.toNat : Int), .int .i64 25] W fun e w' => e = .returned (.int .u32 (rc.toNat : Int)) ∧ W = w') ∧ bits .xor .u32 (ra.toNat : Int) (rb.toNat : Int) = (y.toNat : Int) ∧ bits .xor .u32 (y.toNat : Int) (rc.toNat : Int) = (z.toNat : Int) :=
  ⟨rotr x 6, rotr x 11, rotr x 25, rotr x 6 ^^^ rotr x 11, _, rfl, fun W => refRot6_any x W, fun W => refRot11_any x W, fun W => refRot25_any x W, xor_u32 _ _, xor_u32 _ _⟩
theorem high_pack (x : UInt32) : ∃ ra rb rc y z : UInt32, z = sHigh x ∧ (∀ W, Calls Tryd.prog 62 #[.int .u32 (x.toNat : Int), .int .i64 2] W fun e w' => e = .returned (.int .u32 (ra.toNat : Int)) ∧ W = w') ∧ (∀ W, Calls Tryd.prog 62 #[.int .u32 (x.toNat : Int), .int .i64 13] W fun e w' => e = .returned (.int .u32 (rb.toNat : Int)) ∧ W = w') ∧ (∀ W, Calls Tryd.prog 62 #[.int .u32 (x.toNat : Int), .int .i64 22] W fun e w' => e = .returned (.int .u32 (rc.toNat : Int)) ∧ W = w') ∧ bits .xor .u32 (ra.toNat : Int) (rb.toNat : Int) = (y.toNat : Int) ∧ bits .xor .u32 (y.toNat : Int) (rc.toNat : Int) = (z.toNat : Int) :=
  ⟨rotr x 2, rotr x 13, rotr x 22, rotr x 2 ^^^ rotr x 13, _, rfl, fun W => refRot2_any x W, fun W => refRot13_any x W, fun W => refRot22_any x W, xor_u32 _ _, xor_u32 _ _⟩
theorem chs_pack (x y z : UInt32) : ∃ s n r q : UInt32, q = chs x y z ∧ bits .and .u32 (x.toNat : Int) (y.toNat : Int) = (s.toNat : Int) ∧ bits .xor .u32 4294967295 (x.toNat : Int) = (n.toNat : Int) ∧ bits .and .u32 (n.toNat : Int) (z.toNat : Int) = (r.toNat : Int) ∧ bits .xor .u32 (s.toNat : Int) (r.toNat : Int) = (q.toNat : Int) :=
  ⟨_, _, _, _, rfl, and_u32 x y, not_u32 x, and_u32 _ z, xor_u32 _ _⟩
theorem maj_pack (x y z : UInt32) : ∃ s t v r q : UInt32, q = maj x y z ∧ bits .and .u32 (x.toNat : Int) (y.toNat : Int) = (s.toNat : Int) ∧ bits .and .u32 (x.toNat : Int) (z.toNat : Int) = (t.toNat : Int) ∧ bits .and .u32 (y.toNat : Int) (z.toNat : Int) = (v.toNat : Int) ∧ bits .xor .u32 (s.toNat : Int) (t.toNat : Int) = (r.toNat : Int) ∧ bits .xor .u32 (r.toNat : Int) (v.toNat : Int) = (q.toNat : Int) :=
  ⟨_, _, _, _, _, rfl, and_u32 x y, and_u32 x z, and_u32 y z, xor_u32 _ _, xor_u32 _ _⟩
theorem sum2_pack (a b : UInt32) : ∃ x : UInt32, x = a + b ∧ IntKind.u32.wrap ((a.toNat : Int) + (b.toNat : Int)) = (x.toNat : Int) := ⟨_, rfl, add_u32w a b⟩
theorem sum3_pack (a b c : UInt32) : ∃ x y : UInt32, y = a + b + c ∧ IntKind.u32.wrap ((a.toNat : Int) + (b.toNat : Int)) = (x.toNat : Int) ∧ IntKind.u32.wrap ((x.toNat : Int) + (c.toNat : Int)) = (y.toNat : Int) := ⟨_, _, rfl, add_u32w a b, add_u32w _ c⟩
theorem sum4_pack (a b c d : UInt32) : ∃ x y z : UInt32, z = a + b + c + d ∧ IntKind.u32.wrap ((a.toNat : Int) + (b.toNat : Int)) = (x.toNat : Int) ∧ IntKind.u32.wrap ((x.toNat : Int) + (c.toNat : Int)) = (y.toNat : Int) ∧ IntKind.u32.wrap ((y.toNat : Int) + (d.toNat : Int)) = (z.toNat : Int) := ⟨_, _, _, rfl, add_u32w a b, add_u32w _ c, add_u32w _ d⟩
theorem sum5_pack (a b c d e : UInt32) : ∃ x y z v : UInt32, v = a + b + c + d + e ∧ IntKind.u32.wrap ((a.toNat : Int) + (b.toNat : Int)) = (x.toNat : Int) ∧ IntKind.u32.wrap ((x.toNat : Int) + (c.toNat : Int)) = (y.toNat : Int) ∧ IntKind.u32.wrap ((y.toNat : Int) + (d.toNat : Int)) = (z.toNat : Int) ∧ IntKind.u32.wrap ((z.toNat : Int) + (e.toNat : Int)) = (v.toNat : Int) := ⟨_, _, _, _, rfl, add_u32w a b, add_u32w _ c, add_u32w _ d, add_u32w _ e⟩
theorem word_pack (a b c d : UInt8) : ∃ x y : Int, ∃ z : UInt32, z = wordOf a b c d ∧ bits .or .u32 ((a.toNat : Int) * 16777216) ((b.toNat : Int) * 65536) = x ∧ bits .or .u32 x ((c.toNat : Int) * 256) = y ∧ bits .or .u32 y (d.toNat : Int) = (z.toNat : Int) ∧
    IntKind.u32.wrap ((a.toNat : Int) * 16777216) = (a.toNat : Int) * 16777216 ∧ IntKind.u32.wrap ((b.toNat : Int) * 65536) = (b.toNat : Int) * 65536 ∧ IntKind.u32.wrap ((c.toNat : Int) * 256) = (c.toNat : Int) * 256 ∧
    IntKind.u32.wrap (a.toNat : Int) = (a.toNat : Int) ∧ IntKind.u32.wrap (b.toNat : Int) = (b.toNat : Int) ∧ IntKind.u32.wrap (c.toNat : Int) = (c.toNat : Int) ∧ IntKind.u32.wrap (d.toNat : Int) = (d.toNat : Int) := by
  obtain ⟨x, y, h1, h2, h3⟩ := word_steps a b c d
  have ha := a.toNat_lt
  have hb := b.toNat_lt
  have hc := c.toNat_lt
  have hd := d.toNat_lt
  have hw : ∀ z : Int, IntKind.u32.wrap z = z % 4294967296 := fun z => rfl
  exact ⟨x, y, _, rfl, h1, h2, h3, by rw [hw]; omega, by rw [hw]; omega, by rw [hw]; omega, by rw [hw]; omega, by rw [hw]; omega, by rw [hw]; omega, by rw [hw]; omega⟩
theorem sched_old (bl : List UInt8) (k : Nat) (h : ¬ k < 16) (x2 x7 x15 x16 : UInt32) (h2 : (schedTo bl k)[k - 2]? = some x2) (h7 : (schedTo bl k)[k - 7]? = some x7) (h15 : (schedTo bl k)[k - 15]? = some x15) (h16 : (schedTo bl k)[k - 16]? = some x16) :
    schedTo bl (k + 1) = (schedTo bl k).set k (x16 + sEarly x15 + x7 + sLate x2) := by
  rw [schedTo, schedNew, if_neg h, getD_some h2, getD_some h7, getD_some h15, getD_some h16]
  congr 1
  ac_rfl
theorem step_old (s : S8) (K x : UInt32) : stepS s K x = ⟨lowOf s K x + sHigh s.a + maj s.a s.b s.c, s.a, s.b, s.c, s.d + lowOf s K x, s.e, s.f, s.g⟩ := by
  rw [stepS, highOf, UInt32.add_assoc]
theorem s8_list : ∀ (ws : List UInt32), ws.length = 8 → (s8of ws).list = ws
  | [_, _, _, _, _, _, _, _], _ => rfl
theorem byte_pack (x : UInt32) : ∃ y0 y1 y2 y3 : UInt8, bytesOf x = [y0, y1, y2, y3] ∧ (x.toNat : Int) / 16777216 = (y0.toNat : Int) ∧ (x.toNat : Int) / 65536 % 256 = (y1.toNat : Int) ∧ (x.toNat : Int) / 256 % 256 = (y2.toNat : Int) ∧ (x.toNat : Int) % 256 = (y3.toNat : Int) :=
  ⟨_, _, _, _, rfl, by have := x.toNat_lt; simp; omega, by simp, by simp, by simp⟩
theorem sha_at (l : List UInt8) (k : Nat) (hk : k < 32) (u : UInt32) (hu : (padOf (newH.adds l)).ws[k / 4]? = some u) (y : UInt8) (hy : (bytesOf u)[k % 4]? = some y) : (shaOf l)[k]? = some y := by
  rw [shaOf, sumOf, List.getElem?_map, List.getElem?_range hk, Option.map_some, getD_some hu, getD_some hy]
theorem bcells_set' (l : List UInt8) (k : Nat) (u : UInt8) : (bcells l).set k (.int .u8 (u.toNat : Int)) = bcells (l.set k u) := by simp [bcells, List.map_set]
end Go.Proofs.YtndnmjolcilamaaDoor
