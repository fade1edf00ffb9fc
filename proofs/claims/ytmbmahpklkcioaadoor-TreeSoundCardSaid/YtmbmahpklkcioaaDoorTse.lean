/- Remove and Nodes at a Tree made since w0; the walk of TreeFull. -/
import Derived.Test.YtmbmahpklkcioaaDoorTsd
import Derived.Test.YtmbmahpklkcioaaDoorTry
namespace Go.Proofs.YtmbmahpklkcioaaDoor
open Go.RowKit Go.Maps Go.WideMaps

section
variable {w0 w : World} {tb mb : Nat} {M : List (List UInt8 × Nd)}
theorem g_remove_ok (h : TG w0 w tb mb M) (who s : ByteArray) (p : List UInt8) (hp : s.data.toList = p) (hs : p.length ≤ 100000) (hc : removeC M who p = 0) (hk : NoKid M p) :
    Calls Tryd.prog 14 #[.pointer (some ⟨tb, 0, none⟩), .string who, .string s] w fun e w' => e = .returned (.int .i64 0) ∧ TG w0 w' tb mb (withoutM M p) :=
  (remove_ok w tb mb M h.ts who s p hp hs hc hk).mono fun _ _ hh => ⟨hh.1, hh.2.1, none_of h.gr hh.2.2 h.b2, h.b1, h.b2, fun q n hq => h.b3 q n (mem_without hq).1⟩
theorem g_nodes (h : TG w0 w tb mb M) (n : Nat) (hn : M.length = n) (hl : n ≤ 1000000) (hsh : Short M) :
    Calls Tryd.prog 15 #[.pointer (some ⟨tb, 0, none⟩)] w fun e w' => ∃ A c, e = .returned (.slice A n c) ∧ TG w0 w' tb mb M := by
  subst hn
  refine (nodes_any w tb mb M h.ts hl hsh).mono ?_
  rintro e w' ⟨v, ks, cs, rfl, hks, hrow, hat, hg⟩
  obtain ⟨A, c, rfl, -, -⟩ := hrow.shape
  refine ⟨A, c, ?_, h.below (below_of_none hg)⟩
  rw [hat.1, hks.1.length_eq]
  unfold keysM
  rw [List.length_map]
theorem f_write_ok {ps : List (List UInt8)} (h : TG w0 w tb mb M) (hf : Flat M ps) (s : ByteArray) (p : List UInt8) (hp : s.data.toList = p) (ho : One p) (hn : p ∉ ps) (m : Nat) (hm : m ≤ 63) (hl : ps.length < 63) :
    Calls Tryd.prog 11 #[.pointer (some ⟨tb, 0, none⟩), .string ⟨#[114, 111, 111, 116]⟩, .string s, .slice none 0 0, .int .i64 m] w fun e w' => e = .returned (.int .i64 0) ∧ ∃ M', TG w0 w' tb mb M' ∧ Flat M' (ps ++ [p]) := by
  have hc := hf.write ho hn 0 (by omega) m (by omega)
  rw [if_neg (by omega)] at hc
  refine (g_write_put h hf.top' rootB s (by decide) p hp (by have := ho.len; omega) none [] 0 0 rfl (RB.nil_ _ _) m hc (hf.out ho hn)).mono ?_
  rintro e w' ⟨rfl, b, v, t, -⟩
  exact ⟨rfl, _, t, hf.put ho _ (show rootB.size ≤ 1000000 by decide)⟩
theorem f_write_no {ps : List (List UInt8)} (h : TG w0 w tb mb M) (hf : Flat M ps) (s : ByteArray) (p : List UInt8) (hp : s.data.toList = p) (ho : One p) (hn : p ∉ ps) (m : Nat) (hm : m ≤ 63) (hl : 63 ≤ ps.length) (hl2 : ps.length ≤ 100) :
    Calls Tryd.prog 11 #[.pointer (some ⟨tb, 0, none⟩), .string ⟨#[114, 111, 111, 116]⟩, .string s, .slice none 0 0, .int .i64 m] w fun e w' => e = .returned (.int .i64 2) ∧ TG w0 w' tb mb M := by
  have hc := hf.write ho hn 0 (by omega) m (by omega)
  rw [if_pos hl] at hc
  exact (g_write_no h hf.top' (by rw [hf.len]; omega) rootB s p hp (by have := ho.len; omega) none 0 0 m 2 hc (by decide)).mono fun _ _ hh => ⟨hh.1, hh.2.1⟩
theorem f_mkdir_ok {ps : List (List UInt8)} (h : TG w0 w tb mb M) (hf : Flat M ps) (s : ByteArray) (p : List UInt8) (hp : s.data.toList = p) (ho : One p) (hn : p ∉ ps) (m : Nat) (hm : m ≤ 63) (hl : ps.length < 63) :
    Calls Tryd.prog 10 #[.pointer (some ⟨tb, 0, none⟩), .string ⟨#[114, 111, 111, 116]⟩, .string s, .int .i64 m] w fun e w' => e = .returned (.int .i64 0) ∧ ∃ M', TG w0 w' tb mb M' ∧ Flat M' (ps ++ [p]) := by
  have hc := hf.mkdir ho hn m (by omega)
  rw [if_neg (by omega)] at hc
  refine (g_mkdir_ok h hf.top' rootB s (by decide) p hp (by have := ho.len; omega) m hc).mono ?_
  rintro e w' ⟨rfl, b, v, t⟩
  exact ⟨rfl, _, t, hf.put ho _ (show rootB.size ≤ 1000000 by decide)⟩
theorem f_mkdir_no {ps : List (List UInt8)} (h : TG w0 w tb mb M) (hf : Flat M ps) (s : ByteArray) (p : List UInt8) (hp : s.data.toList = p) (ho : One p) (hn : p ∉ ps) (m : Nat) (hm : m ≤ 63) (hl : 63 ≤ ps.length) (hl2 : ps.length ≤ 100) :
    Calls Tryd.prog 10 #[.pointer (some ⟨tb, 0, none⟩), .string ⟨#[114, 111, 111, 116]⟩, .string s, .int .i64 m] w fun e w' => e = .returned (.int .i64 2) ∧ TG w0 w' tb mb M := by
  have hc := hf.mkdir ho hn m (by omega)
  rw [if_pos hl] at hc
  exact (g_mkdir_no h hf.top' (by rw [hf.len]; omega) rootB s p hp (by have := ho.len; omega) m 2 hc (by decide)).mono fun _ _ hh => ⟨hh.1, hh.2.1⟩
theorem f_remove_ok {ps : List (List UInt8)} (h : TG w0 w tb mb M) (hf : Flat M ps) (s : ByteArray) (p : List UInt8) (hp : s.data.toList = p) (ho : One p) (hn : p ∈ ps) :
    Calls Tryd.prog 14 #[.pointer (some ⟨tb, 0, none⟩), .string ⟨#[114, 111, 111, 116]⟩, .string s] w fun e w' => e = .returned (.int .i64 0) ∧ ∃ M', TG w0 w' tb mb M' ∧ Flat M' (ps.filter fun x => decide (x ≠ p)) :=
  (g_remove_ok h rootB s p hp (by have := ho.len; omega) (hf.remove ho hn) (hf.noKid ho.ne)).mono fun _ _ hh => ⟨hh.1, _, hh.2, hf.del ho.ne⟩
end
end Go.Proofs.YtmbmahpklkcioaaDoor
