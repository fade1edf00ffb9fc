/- The walk of a line that is rubbed out; of any byte; New, Line, Stops, Feed. -/
import Derived.Test.YtbkaabimafipoaaPtb
namespace Go.Proofs.Ytbkaabimafipoaa
open Go.ChangeShapes Go.WideShapes Go.RowKit

def lenV : Value → Nat
  | .slice _ n _ => n
  | _ => 0
def lenAt (p : Nat) (w : World) : Nat := lenV ((w.cell? ⟨p, 0, none⟩).getD undef)
theorem lenAt_of {p : Nat} {w : World} {A : Option Addr} {n c : Nat} (h : w.cell? ⟨p, 0, none⟩ = some (.slice A n c)) : lenAt p w = n := by unfold lenAt; rw [h]; rfl
section
variable {w : World} {base b2 p t : Nat} {v sv lv : Value} {s : Tm} {sh : List UInt8} {ls : List (List UInt8)}
theorem PT.len {w : World} {base p : Nat} {v : Value} {s : Tm} (h : PT w base p v s) : lenAt p w = s.line.length := by
  obtain ⟨A, c, rfl, -, -⟩ := h.2.2.shape
  exact lenAt_of (h.2.1.at_ rfl)
theorem OkX.up {w w' : World} (h : OkX w base b2 s sh ls) (hs : w.heap.size ≤ w'.heap.size) : OkX w' base b2 s sh ls := ⟨Nat.le_trans h.hb hs, Nat.le_trans h.hb1 hs, h.hsh, h.hls, h.hl, h.hst⟩
theorem PD.pr {w w2 : World} {v1 sv1 lv1 : Value} {s1 : Tm} {sh1 : List UInt8} {ls1 : List (List UInt8)} (h : PD w w2 base b2 p t v sv lv v1 sv1 lv1 s1 sh1 ls1) : PR w w2 base b2 p t v sv lv s1 sh1 ls1 := ⟨_, _, _, h⟩

set_option maxHeartbeats 2000000 in
theorem take_line (h : PX w base b2 p t v sv lv s sh ls) (ok : OkX w base b2 s sh ls) (c : UInt8) (hc : c.toNat = 21) :
    Calls Try.prog 15 #[.pointer (some ⟨p, 0, none⟩), .int .u8 (c.toNat : Int), .pointer (some ⟨t, 0, none⟩)] w fun e w' => e = .returned (.tuple #[]) ∧ PR w w' base b2 p t v sv lv (tkF s c).1 (sh ++ (tkF s c).2.1) (ls ++ (tkF s c).2.2) := by
  have hT : tkF s c = (⟨[], s.stops, false⟩, rubsN s.line.length, []) := by unfold tkF; rw [if_neg (by omega), if_neg (by omega), if_pos hc]
  rw [hT]
  simp only [List.append_nil]
  obtain ⟨hb, hb1, hsh, hls, hl, hst⟩ := ok
  have k2 : w.cell? ⟨p, 2, none⟩ = some (.bool s.ret) := h.pt.2.1.at_ rfl
  have C0 := Lib.hid h.pt.2.1
  have H := Lib.hid h
  have HS := Lib.hid hsh
  have HL := Lib.hid hl
  clear h hsh hls hl hT
  rw [hc, show ((21 : Nat) : Int) = 21 from rfl]
  clear hc
  go_enter Try.func15, Try.ntmps15
  go_wp2_with (refine wpList_storeC (off := 2) (p := [.bool false]) szB1 rfl (.tmp 15) (.tmp 13) rfl (.bool false) rfl (fun u hu => by rw [List.mem_singleton.1 hu]; rfl) C0.out rfl (by simp) (by first | rfl | go_simp) (by first | rfl | go_simp) ?_; intro w1 h1 g1; have D1 := Lib.hid (H.out.cells (s' := ⟨s.line, s.stops, false⟩) (v' := v) h1 g1 (.inl ⟨rfl, rfl⟩)); clear h1 g1)
  go_loopw [53] (fun _ wr => ∃ (k : Nat) (v' sv' lv' : Value), k ≤ s.line.length ∧ PD w wr base b2 p t v sv lv v' sv' lv' ⟨s.line.take (s.line.length - k), s.stops, false⟩ (sh ++ rubsN k) ls) (fun _ wr => lenAt p wr)
  case atStart => exact ⟨0, v, sv, lv, Nat.zero_le _, by simpa [rubsN] using D1.out⟩
  case round =>
    obtain ⟨k, v', sv', lv', hk, hd⟩ := hrel
    obtain ⟨m, hm⟩ : ∃ m, s.line.length - k = m := ⟨_, rfl⟩
    rw [hm] at hd
    have hlen : (s.line.take m).length = m := by rw [List.length_take]; omega
    have hla : lenAt p wr = m := by rw [hd.1.pt.len]; exact hlen
    obtain ⟨A', c', rfl, -, -⟩ := hd.1.pt.2.2.shape
    have k0 : wr.cell? ⟨p, 0, none⟩ = some (.slice A' m c') := by have := hd.1.pt.2.1.at_ (i := 0) rfl; rw [hlen] at this; exact this
    have HD := Lib.hid hd
    have HM := Lib.hid hm
    have HK := Lib.hid hk
    have HLN := Lib.hid hlen
    have HLA := Lib.hid hla
    clear hd hlen hm hk hla
    by_cases h0 : 0 < m
    · have hmi : (0 : Int) < (m : Int) := by omega
      go_wp2_with (go_at_call 17; refine (drop_any HD.out.1 (by have := HD.out.2.1.size; omega) (by have := HS.out; rw [List.length_append, rubsN_length]; have := HL.out; have := HK.out; omega) (by show (s.line.take m).length ≤ 80; rw [HLN.out]; have := HL.out; have := HM.out; omega)).mono ?_; rintro e wz ⟨rfl, rz⟩; have RZ := Lib.hid rz; clear rz)
      go_roundw
      case rel =>
        obtain ⟨v2, sv2, lv2, d2⟩ := PD.next HD.out RZ.out
        refine ⟨k + 1, v2, sv2, lv2, by have := HM.out; omega, ?_⟩
        have e1 : (s.line.take m).dropLast = s.line.take (s.line.length - (k + 1)) := by
          rw [List.dropLast_eq_take, List.take_take, HLN.out]
          congr 1
          have := HM.out
          omega
        have e2 : sh ++ rubsN k ++ rubsN (min 1 (s.line.take m).length) = sh ++ rubsN (k + 1) := by
          rw [HLN.out, show min 1 m = 1 by omega, rubsN_succ k, List.append_assoc]
          rfl
        rw [← e1, ← e2]
        exact d2
      case measure =>
        obtain ⟨v2, sv2, lv2, d2⟩ := RZ.out
        rw [d2.1.pt.len, HLA.out]
        show (s.line.take m).dropLast.length < m
        rw [List.length_dropLast, HLN.out]
        omega
    · obtain rfl : m = 0 := by omega
      go_wp2
      go_end0
      refine ⟨rfl, ?_⟩
      have hkk : k = s.line.length := by have := HM.out; have := HK.out; omega
      have := HD.out.pr
      rw [hkk, List.take_zero] at this
      exact this

theorem take_any (h : PX w base b2 p t v sv lv s sh ls) (ok : OkX w base b2 s sh ls) (c : UInt8) :
    Calls Try.prog 15 #[.pointer (some ⟨p, 0, none⟩), .int .u8 (c.toNat : Int), .pointer (some ⟨t, 0, none⟩)] w fun e w' => e = .returned (.tuple #[]) ∧ PR w w' base b2 p t v sv lv (tkF s c).1 (sh ++ (tkF s c).2.1) (ls ++ (tkF s c).2.2) := by
  by_cases h13 : c.toNat = 13
  · exact take_line13 h ok c h13
  by_cases h10 : c.toNat = 10
  · cases hr : s.ret with
    | true => exact take_skip h ok c h10 hr
    | false => exact take_line10 h ok c h10 hr
  by_cases h8 : c.toNat = 8
  · exact take_drop8 h ok c h8
  by_cases h127 : c.toNat = 127
  · exact take_drop127 h ok c h127
  by_cases h21 : c.toNat = 21
  · exact take_line h ok c h21
  by_cases h3 : c.toNat = 3
  · exact take_stop h ok c h3
  by_cases hlo : c.toNat < 32
  · exact take_low h ok c ⟨hlo, h10, h13, h8, h21, h3⟩
  by_cases hhi : 127 < c.toNat
  · exact take_high h ok c hhi
  · exact take_add h ok c ⟨by omega, by omega⟩
end
end Go.Proofs.Ytbkaabimafipoaa
