/- mayChange. -/
import Derived.Deep.QuietTactic
import Derived.StillTailTactics
import Derived.Test.YtmbmahpklkcioaaDoorTrj
namespace Go.Proofs.YtmbmahpklkcioaaDoor
open Go.RowKit Go.Maps Go.WideMaps

set_option maxHeartbeats 2000000 in
theorem mayChange_any (w : World) (tb mb : Nat) (M : List (List UInt8 × Nd)) (hT : TR w tb mb M) (who s : ByteArray) (a b : List UInt8) (hp : s.data.toList = a ++ 47 :: b) (hb : (47 : UInt8) ∉ b) (hs : s.size ≤ 1000000) (n : Nd) (hn : M.lookup ((a ++ 47 :: b).take (max a.length 1)) = some n) :
    Calls Tryd.prog 27 #[.pointer (some ⟨tb, 0, none⟩), .string who, .string s] w fun e w' => e = .returned (.bool (mayOk who 2 n.owner n.mode)) ∧ ∃ q, w' = w.drewN q := by
  have hz : s.size = a.length + 1 + b.length := by
    have : s.size = s.data.toList.length := rfl
    rw [this, hp, List.length_append, List.length_cons]; omega
  have PA : ∀ W, Calls Tryd.prog 38 #[.string s] W fun e w' => e = .returned (.string ⟨((a ++ 47 :: b).take (max a.length 1)).toArray⟩) ∧ w' = W := fun W => (parent_any s a b hp hb hs W).mono (by
    rintro e w' ⟨r, rfl, hr, rfl⟩
    rw [bytes_of hr]
    exact ⟨rfl, rfl⟩)
  have hN := hT.nodes _ _ (lookup_in hn)
  have MA : ∀ q, Calls Tryd.prog 24 #[.string who, .int .i64 2, .pointer (some ⟨n.blk, 0, none⟩)] (w.drewN q) fun e w' => e = .returned (.bool (mayOk who 2 n.owner n.mode)) ∧ w' = w.drewN q := fun q => may_any (w.drewN q) who 2 n.blk _ n.owner n.dir n.mode n.data (show CB (w.drewN q) n.blk _ _ from hN.1) hN.2 (.inr (.inl rfl))
  obtain ⟨ps, hps⟩ : ∃ ps : ByteArray, ps = ⟨((a ++ 47 :: b).take (max a.length 1)).toArray⟩ := ⟨_, rfl⟩
  have hLK : ∀ q, (Instr.lookup 51 (.map (some mb)) (.string ps) false).run Tryd.prog (w.drewN q) = .ok (.pointer (some ⟨n.blk, 0, none⟩)) (w.drewN q) := by
    intro q
    have hT' : TR (w.drewN q) tb mb M := ⟨hT.top, hT.map, hT.nodes⟩
    have hpl : ps.data.toList = (a ++ 47 :: b).take (max a.length 1) := by rw [hps]
    have := run_lookP hT' ps (by rw [hpl, List.length_take]; have : s.data.toList.length ≤ 1000000 := hs; rw [hp] at this; omega)
    rw [hpl, hn] at this
    exact this
  rw [← hps] at PA
  have kt := cell_box hT.top
  have PH := Lib.hid PA
  have MH := Lib.hid MA
  clear PA MA hps hT hp hb hs hn hN hz
  go_enter Tryd.func27, Tryd.ntmps27
  go_wp2_with fail
  go_quiet ((first
    | (go_at_call 38; with_reducible exact Calls.quiet_of_same (PH.out _))
    | (go_at_call 24; with_reducible exact Calls.quiet_of_same (MH.out _))))
  go_wp2
  go_ret
  exact ⟨rfl, nq, rfl⟩
end Go.Proofs.YtmbmahpklkcioaaDoor
