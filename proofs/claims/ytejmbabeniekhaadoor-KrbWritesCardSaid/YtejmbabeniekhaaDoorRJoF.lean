/- The walks of Field and Join of the document's answer. -/
import Derived.Test.YtejmbabeniekhaaDoorRSpW
namespace Go.Proofs.YtejmbabeniekhaaDoor
open Go.RowKit

set_option maxHeartbeats 400000 in
theorem field_any (t : Int) (V : Option Addr) (v : List UInt8) (c : Nat) (w : World) (h1 : 1 ≤ t) (h2 : t ≤ 255) (h3 : v.length ≤ 65535) (h : RB w w.heap.size V v c) :
    Calls Tryd.prog 47 #[.int .i64 t, .slice V v.length c] w fun e w' => ∃ u, e = .returned u ∧ OwnB w' w.heap.size 5 u (fieldB (t, v)) ∧ Below w.heap.size w w' := by
  have H := Lib.hid h
  have hl : v.length ≤ 9223372036854775807 := by omega
  have hown3 := OwnB.new3 w w.heap.size 5 (UInt8.ofNat t.toNat) (UInt8.ofNat (v.length / 256)) (UInt8.ofNat v.length) t ((v.length : Int) / 256) ((v.length : Int) % 256) (u8_of (by omega)) (u8_of (by omega)) (u8_of (by omega)) (Nat.le_refl _)
  clear h
  go_enter Tryd.func47, Tryd.ntmps47
  go_wp2_with (at_builtin; refine wpList_appB byteT rfl (.tmp 17) (.tmp 18) rfl (l := [UInt8.ofNat t.toNat, UInt8.ofNat (v.length / 256), UInt8.ofNat v.length]) hown3 (H.out.alloc (Nat.le_refl _) _) rfl rfl (by simp; omega) (by simp) ?_; intro v' w' hown' hg' _ hat')
  go_ret
  exact ⟨_, rfl, hown', ((Below.refl _ _).alloc (Nat.le_refl _) _).grown hg' (by simp) (fun k hk => by simp [Value.ownBlock] at hk; omega)⟩

end Go.Proofs.YtejmbabeniekhaaDoor
