/- The walk of the examples of the document. -/
import Derived.Test.YtajfaplaaafjiaaFri
namespace Go.Proofs.Ytajfaplaaafjiaa
open Go.RowKit

theorem Apart.new {w : World} {base r : Nat} {v : Value} {p : List UInt8} {e : Int} (h : RD w base r v p e) {g : Nat} {d : List UInt8} (hg : w.heap.size ≤ g) : Apart (some ⟨g, 0, none⟩) d r v := by
  intro a ha _
  injection ha with ha
  subst ha
  exact ⟨by have := h.lt.2; show g ≠ r; omega, fun e => by have := (h.vlt g e).2.1; omega⟩
set_option maxRecDepth 10000 in
set_option maxHeartbeats 4000000 in
theorem speaks_any (w : World) : Calls Try.prog 11 #[] w fun e w' => e = .returned (.bool true) ∧ w.grownBy w' none := by
  have kc := fun (w : World) (C : Array Value) (n c : Nat) => Lib.run_convert_bytes_const (P := Try.prog) w 22 5 C n c Try.underlying22 Try.underlying5
  have hf1 : feedF [] 0 [1, 0, 2, 97] = ([], [1, 0, 2, 97], 0) := by decide +kernel
  have hf2 : feedF [1, 0, 2, 97] 0 [98, 0] = ([(1, [97, 98])], [0], 0) := by decide +kernel
  have hi2 : Inc [1, 0, 2, 97] := .inr ⟨by decide, .inr ⟨by decide, by decide⟩⟩
  go_enter Try.func11, Try.ntmps11
  go_wp2_with (go_at_call 14; refine (newReader_any _).mono ?_; rintro e w1 ⟨rfl, r1, g1⟩; have R1 := Lib.hid r1; have G1 := Lib.hid g1; clear r1 g1)
  have HF := Lib.hid (feed_open _ _ _ _ _ (R1.out.made (grown_alloc w1 (.cells (bcells [1, 0, 2, 97]).toArray 5 (4, 5)) none)) (.inl rfl) (some ⟨w1.heap.size, 0, none⟩) [1, 0, 2, 97] 4 4 rfl (by
    have h := RB.newm w1 5 (4, 5) [1, 0, 2, 97] (by simp [maxLen]) (w1.heap.size + 1) (by omega)
    rw [World.size_alloc]
    exact h) (fun a ha _ => by injection ha with ha; subst ha; exact ⟨by have := R1.out.lt.2; show w1.heap.size ≠ w.heap.size; omega, by simp [Value.ownBlock]⟩) (by omega))
  rw [hf1] at HF
  refine HF.out.mono ?_
  rintro e w2 ⟨vf, v2, rfl, o2, r2, m2, -⟩
  have G2 := Lib.hid (show w.grownBy w2 none from by
    have h1 := grown_trans' G1.out (grown_alloc w1 (.cells (bcells [1, 0, 2, 97]).toArray 5 (4, 5)) none)
    exact ⟨m2.os.trans h1.os, m2.tape.trans h1.tape, m2.output.trans h1.output, Nat.le_trans h1.size m2.size, fun k hk hn => (m2.block k (Nat.lt_of_lt_of_le hk h1.size) (fun e => by
      rcases e with e | e
      · omega
      · simp [Value.ownBlock] at e)).trans (h1.block k hk hn)⟩)
  obtain ⟨Af, cf, rfl, -, -⟩ := o2.shape
  have R2 := Lib.hid r2
  clear o2 r2 m2 HF hf1
  go_wp2_with fail
  have HF := Lib.hid (feed_open _ _ _ _ _ (R2.out.made (grown_alloc w2 (.cells (bcells [98, 0]).toArray 5 (2, 3)) none)) hi2 (some ⟨w2.heap.size, 0, none⟩) [98, 0] 2 2 rfl (by
    have h := RB.newm w2 5 (2, 3) [98, 0] (by simp [maxLen]) (w2.heap.size + 1) (by omega)
    rw [World.size_alloc]
    exact h) (Apart.new R2.out (Nat.le_refl _)) (by omega))
  rw [hf2] at HF
  refine HF.out.mono ?_
  rintro e w3 ⟨vg, v3, rfl, o3, r3, m3, -⟩
  have G3 := Lib.hid (show w.grownBy w3 none from by
    have h1 := grown_trans' G2.out (grown_alloc w2 (.cells (bcells [98, 0]).toArray 5 (2, 3)) none)
    exact ⟨m3.os.trans h1.os, m3.tape.trans h1.tape, m3.output.trans h1.output, Nat.le_trans h1.size m3.size, fun k hk hn => (m3.block k (Nat.lt_of_lt_of_le hk h1.size) (fun e => by
      rcases e with e | e
      · omega
      · have := (R2.out.vlt k e).1; omega)).trans (h1.block k hk hn)⟩)
  obtain ⟨Ag, cg, rfl, rf3, -⟩ := o3.shape
  obtain ⟨b, off, rfl, hb, hc⟩ := rf3.open_ (by simp)
  obtain ⟨c0, V, cv, c1, hV⟩ := hc 0 _ rfl
  have R3 := Lib.hid r3
  have HR := Lib.hid (rest_any w3 _ _ _ _ _ R3.out)
  have q1 : (convert 22 9 (.slice V 2 cv)).run Try.prog w3 = .ok (.string ⟨#[97, 98]⟩) w3 := run_strB byteT Try.underlying9 hV
  simp only [Nat.zero_mul, Nat.add_zero] at c0 c1
  clear o3 r3 m3 HF hf2 rf3 hc hb hV hi2 kc
  go_wp2_with (go_at_call 17; refine HR.out.mono ?_; rintro e w4 ⟨rfl, rfl⟩)
  go_ret
  exact ⟨rfl, G3.out⟩
end Go.Proofs.Ytajfaplaaafjiaa
