/- The walks of speaks, TreeOwner. -/
import Derived.Test.YtmbmahpklkcioaaDoorTrw
namespace Go.Proofs.YtmbmahpklkcioaaDoor
open Go.RowKit Go.Maps Go.WideMaps

def annB : ByteArray := ⟨#[97, 110, 110]⟩
def bobB : ByteArray := ⟨#[98, 111, 98]⟩
def usersP : List UInt8 := [47, 117, 115, 101, 114, 115]
def userxP : List UInt8 := [47, 117, 115, 101, 114, 115, 47, 120]
section
variable (b0 b1 : Nat) (v0 v1 : Value)
theorem sp_mk1 : mkdirC [([47], ⟨b0, true, rootB, 61, v0⟩)] rootB usersP 61 = 0 := by kernel_rfl
theorem sp_mk2 : mkdirC [([47], ⟨b0, true, rootB, 61, v0⟩), (usersP, ⟨b1, true, rootB, 61, v1⟩)] annB userxP 61 = 114 := by kernel_rfl
theorem sp_give : giveR [([47], ⟨b0, true, rootB, 61, v0⟩), (usersP, ⟨b1, true, rootB, 61, v1⟩)] rootB usersP = (0, some ⟨b1, true, rootB, 61, v1⟩) := by kernel_rfl
theorem sp_mk3 : mkdirC [([47], ⟨b0, true, rootB, 61, v0⟩), (usersP, ⟨b1, true, annB, 61, v1⟩)] annB userxP 61 = 0 := by kernel_rfl
end

set_option maxRecDepth 10000 in
set_option maxHeartbeats 4000000 in
theorem speaks_any (w : World) : Calls Tryd.prog 8 #[] w fun e w' => e = .returned (.bool true) ∧ w.grownBy w' none := by
  have TK0 := Lib.hid True.intro
  go_enter Tryd.func8, Tryd.ntmps8
  go_wp2_with (first
    | (have hx := TK0; go_at_call 9; refine (TG.new _).mono ?_; rintro e w0 ⟨tb, mb, b0, v0, rfl, t0, g0⟩; have T0 := Lib.hid (t0); clear t0 g0; clear hx TK0; have TK1 := Lib.hid True.intro)
    | (have hx := TK1; go_at_call 10; refine (g_mkdir_ok T0.out ⟨_, rfl⟩ ⟨#[114, 111, 111, 116]⟩ ⟨#[47, 117, 115, 101, 114, 115]⟩ (by decide) usersP rfl (by decide) 61 (sp_mk1 b0 v0)).mono ?_; rintro e w1 ⟨rfl, b1, v1, t⟩; have T1 := Lib.hid t; clear t; clear hx TK1; have TK2 := Lib.hid True.intro)
    | (have hx := TK2; go_at_call 10; refine (g_mkdir_no T1.out ⟨_, rfl⟩ (by simp) ⟨#[97, 110, 110]⟩ ⟨#[47, 117, 115, 101, 114, 115, 47, 120]⟩ userxP rfl (by decide) 61 114 (sp_mk2 b0 b1 v0 v1) (by decide)).mono ?_; rintro e w2 ⟨rfl, t, kp⟩; have T2 := Lib.hid t; have K2 := Lib.hid kp; clear t kp; clear hx TK2; have TK3 := Lib.hid True.intro)
    | (have hx := TK3; go_at_call 19; refine (g_give_ok T2.out ⟨#[114, 111, 111, 116]⟩ ⟨#[47, 117, 115, 101, 114, 115]⟩ ⟨#[97, 110, 110]⟩ usersP rfl (by decide) (by decide) _ (sp_give b0 b1 v0 v1) (by simp [usersP]; rfl)).mono ?_; rintro e w3 ⟨rfl, t, kp⟩; have T3 := Lib.hid t; clear t kp; clear hx TK3; have TK4 := Lib.hid True.intro)
    | (have hx := TK4; go_at_call 10; refine (g_mkdir_ok T3.out ⟨_, rfl⟩ ⟨#[97, 110, 110]⟩ ⟨#[47, 117, 115, 101, 114, 115, 47, 120]⟩ (by decide) userxP rfl (by decide) 61 (sp_mk3 b0 b1 v0 v1)).mono ?_; rintro e w4 ⟨rfl, b2, v2, t⟩; have T4 := Lib.hid t; clear t; clear hx TK4; have TK5 := Lib.hid True.intro))
  go_ret
  exact ⟨rfl, T4.out.gr⟩
end Go.Proofs.YtmbmahpklkcioaaDoor
