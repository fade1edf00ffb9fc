/- The walks of New, Line, Stops, Feed. -/
import Derived.Test.YtbkaabimafipoaaPtc
namespace Go.Proofs.Ytbkaabimafipoaa
open Go.ChangeShapes Go.WideShapes Go.RowKit

theorem Mod.drewN {S : Nat → Prop} {w w' : World} (h : Mod S w w') (n : Nat) : Mod S w (w'.drewN n) := ⟨h.os, h.tape, h.output, h.size, h.block⟩
def rdS (p : Nat) (v : Value) (k : Nat) : Prop := k = p ∨ v.ownBlock = some k
section
variable {w : World} {base b2 p t : Nat} {v sv lv : Value} {s : Tm} {sh : List UInt8} {ls : List (List UInt8)}
theorem new_any (w : World) : Calls Try.prog 9 #[] w fun e w' => e = .returned (.pointer (some ⟨w.heap.size, 0, none⟩)) ∧ PT w' w.heap.size w.heap.size (.slice none 0 0) ⟨[], 0, false⟩ ∧ w.grownBy w' none := by
  go_enter Try.func9, Try.ntmps9
  go_wp2
  go_ret
  exact ⟨rfl, ⟨Nat.le_refl _, CB.new w 42 [.slice none 0 0, .int .i64 0, .bool false], OwnB.nil_ _ _ _⟩, grown_alloc _ _ _⟩
theorem stops_any (h : PT w base p v s) : Calls Try.prog 14 #[.pointer (some ⟨p, 0, none⟩)] w fun e w' => e = .returned (.int .i64 (s.stops : Int)) ∧ w' = w := by
  have k1 : w.cell? ⟨p, 1, none⟩ = some (.int .i64 (s.stops : Int)) := h.2.1.at_ rfl
  clear h
  go_enter Try.func14, Try.ntmps14
  go_wp2
  go_ret
  exact ⟨rfl, rfl⟩
theorem line_any (h : PT w base p v s) : Calls Try.prog 13 #[.pointer (some ⟨p, 0, none⟩)] w fun e w' => e = .returned (.string (sb s.line)) ∧ w' = w := by
  obtain ⟨A, c, rfl, hr, -⟩ := h.2.2.shape
  have k0 : w.cell? ⟨p, 0, none⟩ = some (.slice A s.line.length c) := h.2.1.at_ rfl
  have hs := run_strB byteT strTy hr
  obtain ⟨n, hn⟩ : ∃ n, s.line.length = n := ⟨_, rfl⟩
  rw [hn] at k0 hs
  clear h hr hn
  go_enter Try.func13, Try.ntmps13
  go_wp2
  go_ret
  exact ⟨rfl, rfl⟩

set_option maxHeartbeats 2000000 in
theorem feed_any (h : PT w base p v s) (hb : base ≤ w.heap.size) (A : Option Addr) (l : List UInt8) (n cap : Nat) (hn : l.length = n) (hr : RB w w.heap.size A l cap) (ha : ∀ a, A = some a → 0 < l.length → a.block ≠ p ∧ v.ownBlock ≠ some a.block)
    (hnl : n ≤ 3000) (hl : s.line.length ≤ 80) (hst : s.stops ≤ 1000000000) :
    Calls Try.prog 10 #[.pointer (some ⟨p, 0, none⟩), .slice A n cap] w fun e w' => ∃ v' sv lv, e = .returned (.tuple #[sv, lv]) ∧ PT w' base p v' (fdF s l).1 ∧
      OwnB w' w.heap.size 5 sv (fdF s l).2.1 ∧ OwnS w' w.heap.size 9 lv ((fdF s l).2.2.map sb) ∧ Mod (rdS p v) w w' ∧ Nw w v v' ∧ ∀ g, v'.ownBlock = some g → sv.ownBlock ≠ some g := by
  have h0 : PX (w.alloc (.cells #[.slice none 0 0, .slice none 0 0] 44)) base w.heap.size p w.heap.size v (.slice none 0 0) (.slice none 0 0) s [] [] :=
    ⟨h.made (grown_alloc _ _ _), ⟨Nat.le_refl _, CB.new w _ [.slice none 0 0, .slice none 0 0], OwnB.nil_ _ _ _, World.ownsRow_nil _ _ _ _⟩, fun g _ e => by simp [Value.ownBlock] at e⟩
  have X0 := Lib.hid h0
  have HP := Lib.hid h.lt.2
  have HR := Lib.hid hr
  have HA := Lib.hid ha
  have HN := Lib.hid hn
  have HL := Lib.hid hl
  have HST := Lib.hid hst
  have HB := Lib.hid hb
  have hni : (n : Int) ≤ 3000 := by omega
  clear h0 h hr ha hn hl hst hb
  go_enter Try.func10, Try.ntmps10
  go_wp2
  go_loopw [11] (fun s11 wr => ∃ (k : Nat) (v' sv lv : Value), s11 = .int .i64 k ∧ k ≤ n ∧ PX wr base w.heap.size p w.heap.size v' sv lv (fdF s (l.take k)).1 (fdF s (l.take k)).2.1 (fdF s (l.take k)).2.2 ∧ Mod (rdS p v) w wr ∧ Nw w v v') (fun s11 _ => n - (intOf s11).toNat)
  case atStart => exact ⟨0, v, .slice none 0 0, .slice none 0 0, rfl, Nat.zero_le _, X0.out, Mod.made (grown_alloc _ _ _), Nw.refl _ _⟩
  case round =>
    obtain ⟨k, v', sv, lv, rfl, hk, hx, hm, hw⟩ := hrel
    have XX := Lib.hid hx
    have MM := Lib.hid hm
    have NN := Lib.hid hw
    by_cases hkn : k < n
    · have hki : (k : Int) < (n : Int) := by omega
      have hkl : k < l.length := by rw [HN.out]; exact hkn
      obtain ⟨b, off, rfl, hbb, hc⟩ := HR.out.open_ (by omega)
      obtain ⟨c, hcv⟩ : ∃ c, c = l[k] := ⟨_, rfl⟩
      have hck := hc k hkl
      rw [← hcv] at hck
      have hap := HA.out _ rfl (by omega)
      have k0 : wr.cell? ⟨b, off + k, none⟩ = some (.int .u8 (c.toNat : Int)) :=
        (World.cell?_of_block (hm.block b hbb (fun e => by rcases e with e | e; exact hap.1 e; exact hap.2 e))).trans hck
      have OK := Lib.hid (show OkX wr base w.heap.size (fdF s (l.take k)).1 (fdF s (l.take k)).2.1 (fdF s (l.take k)).2.2 from
        ⟨hm.size, Nat.le_trans HB.out hm.size, by have h1 := fdF_shown HL.out (l.take k); rw [List.length_take] at h1; omega, by have h1 := fdF_lines s (l.take k); rw [List.length_take] at h1; omega, fdF_line HL.out _, by have h1 := fdF_stops s (l.take k); rw [List.length_take] at h1; have := HST.out; omega⟩)
      have HT := Lib.hid (fdF_take s l k hkl)
      rw [← hcv] at HT
      clear hx hm hw hc hck hap hcv hkl hbb
      go_wp2_with (go_at_call 15; refine (take_any XX.out OK.out c).mono ?_; rintro e wz ⟨rfl, rz⟩; have RZ := Lib.hid rz; clear rz)
      go_roundw
      case rel =>
        obtain ⟨v2, sv2, lv2, x2, m2, n1, n2, n3⟩ := RZ.out
        refine ⟨k + 1, v2, sv2, lv2, by go_num, by omega, by rw [HT.out]; exact x2, MM.out.next m2 (fun i hi e => ?_), NN.out.trans n1 MM.out.size⟩
        rcases e with e | e | e | e | e
        · exact .inl e
        · omega
        · rcases NN.out i e with e | e
          · exact .inr e
          · omega
        · have := (XX.out.td.2.2.1.lt i e).1; omega
        · have := (World.ownsRow.lt XX.out.td.2.2.2 i e).1; omega
      case measure => simp [intOf]; omega
    · obtain rfl : k = n := by omega
      have hki : ¬ (k : Int) < (k : Int) := by omega
      have hlt : l.take k = l := List.take_of_length_le (by rw [HN.out]; exact Nat.le_refl _)
      rw [hlt] at XX
      have k0 : wr.cell? ⟨w.heap.size, 0, none⟩ = some sv := XX.out.td.2.1.at_ rfl
      have k1 : wr.cell? ⟨w.heap.size, 1, none⟩ = some lv := XX.out.td.2.1.at_ rfl
      clear hx hm hw hlt
      go_wp2
      go_quiet (fail)
      go_wp2
      go_ret2
      exact ⟨v', sv, lv, rfl, XX.out.pt, XX.out.td.2.2.1, XX.out.td.2.2.2, Mod.drewN MM.out nq, NN.out, XX.out.ap⟩
end
end Go.Proofs.Ytbkaabimafipoaa
