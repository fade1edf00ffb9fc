/- The document's Same, where two lists of nodes are one; two listings of one Tree. -/
import Derived.Test.YtmbmahpklkcioaaDoorTsh
import Derived.Deep.QuietTactic
import Derived.BigQuiet
namespace Go.Proofs.YtmbmahpklkcioaaDoor
open Go.RowKit Go.Maps Go.WideMaps

theorem drewN_grown (w : World) (m : Nat) : w.grownBy (w.drewN m) none := ⟨rfl, rfl, rfl, Nat.le_refl _, fun _ _ _ => rfl⟩
/-- Two rows of nodes that are alike. -/
def Alike2 (w : World) (xs ys : List (List Value)) : Prop := ∀ (i : Nat) (c d : List Value), xs[i]? = some c → ys[i]? = some d → ∃ (path : ByteArray) (dir : Bool) (owner : ByteArray) (mode : Nat) (dv dv' : Value) (l : List UInt8), c = nodeC path dir owner mode dv ∧ d = nodeC path dir owner mode dv' ∧ OwnB w 0 5 dv l ∧ OwnB w 0 5 dv' l
set_option maxRecDepth 20000 in
set_option maxHeartbeats 4000000 in
theorem same_true (w : World) (A B : Option Addr) (n ca cb : Nat) (xs ys : List (List Value)) (hx : xs.length = n) (hy : ys.length = n) (hA : SR w w.heap.size A 5 xs ca) (hB : SR w w.heap.size B 5 ys cb) (hE : Alike2 w xs ys) :
    Calls Tryd.prog 20 #[.slice A n ca, .slice B n cb] w fun e w' => e = .returned (.bool true) ∧ w.grownBy w' none := by
  have HA := Lib.hid hA
  have HB := Lib.hid hB
  have HX := Lib.hid hx
  have HY := Lib.hid hy
  have HE := Lib.hid hE
  have hnl : n ≤ 9223372036854775807 := by have := hA.1; have := hA.2.1; unfold maxLen at this; omega
  clear hx hy hA hB hE
  go_enter Tryd.func20, Tryd.ntmps20
  go_wp2
  go_loopw [5] (fun i wr => ∃ k : Nat, i = .int .i64 k ∧ k ≤ n ∧ Hid (w.grownBy wr none)) (fun i _ => n - (intOf i).toNat)
  case atStart => exact ⟨0, rfl, Nat.zero_le _, World.grownBy.refl _ _⟩
  case round =>
    obtain ⟨k, rfl, hk, HG⟩ := hrel
    by_cases hlt : k < n
    · have hki : (k : Int) < (n : Int) := by omega
      obtain ⟨ba, oa, rfl, hba, ea⟩ := HA.out.elem (k := k) (by rw [HX.out]; exact hlt)
      obtain ⟨bb, ob, rfl, hbb, eb⟩ := HB.out.elem (k := k) (by rw [HY.out]; exact hlt)
      obtain ⟨path, dir, owner, mode, dv, dv', l, e1, e2, o1, o2⟩ := HE.out k _ _ (List.getElem?_eq_getElem (by rw [HX.out]; exact hlt)) (List.getElem?_eq_getElem (by rw [HY.out]; exact hlt))
      obtain ⟨A1, c1, rfl, -, -⟩ := o1.shape
      obtain ⟨A2, c2, rfl, -, -⟩ := o2.shape
      obtain ⟨ln, hln⟩ : ∃ ln, l.length = ln := ⟨_, rfl⟩
      rw [e1] at ea
      rw [e2] at eb
      rw [hln] at ea eb o1 o2
      have be := below_of_none HG.out
      have kv1 : ∀ m, (convert 22 9 (.slice A1 ln c1)).run Tryd.prog (wr.drewN m) = .ok (.string ⟨l.toArray⟩) (wr.drewN m) := fun m => conv_own ((o1.below be).kept (drewN_grown wr m) (by cases (Value.slice A1 ln c1).ownBlock <;> simp)) hln
      have kv2 : ∀ m, (convert 22 9 (.slice A2 ln c2)).run Tryd.prog (wr.drewN m) = .ok (.string ⟨l.toArray⟩) (wr.drewN m) := fun m => conv_own ((o2.below be).kept (drewN_grown wr m) (by cases (Value.slice A2 ln c2).ownBlock <;> simp)) hln
      rw [Nat.mul_comm 5 k] at ea eb
      have a0 : wr.cell? ⟨ba, oa + k * 5, none⟩ = some (.string path) := (be.cell (p := ⟨ba, oa + k * 5, none⟩) hba).trans (ea 0 _ rfl)
      have a1 : wr.cell? ⟨ba, oa + k * 5 + 1, none⟩ = some (.bool dir) := (be.cell (p := ⟨ba, oa + k * 5 + 1, none⟩) hba).trans (ea 1 _ rfl)
      have a2 : wr.cell? ⟨ba, oa + k * 5 + 2, none⟩ = some (.string owner) := (be.cell (p := ⟨ba, oa + k * 5 + 2, none⟩) hba).trans (ea 2 _ rfl)
      have a3 : wr.cell? ⟨ba, oa + k * 5 + 3, none⟩ = some (.int .i64 mode) := (be.cell (p := ⟨ba, oa + k * 5 + 3, none⟩) hba).trans (ea 3 _ rfl)
      have a4 : wr.cell? ⟨ba, oa + k * 5 + 4, none⟩ = some (.slice A1 ln c1) := (be.cell (p := ⟨ba, oa + k * 5 + 4, none⟩) hba).trans (ea 4 _ rfl)
      have b0 : wr.cell? ⟨bb, ob + k * 5, none⟩ = some (.string path) := (be.cell (p := ⟨bb, ob + k * 5, none⟩) hbb).trans (eb 0 _ rfl)
      have b1 : wr.cell? ⟨bb, ob + k * 5 + 1, none⟩ = some (.bool dir) := (be.cell (p := ⟨bb, ob + k * 5 + 1, none⟩) hbb).trans (eb 1 _ rfl)
      have b2 : wr.cell? ⟨bb, ob + k * 5 + 2, none⟩ = some (.string owner) := (be.cell (p := ⟨bb, ob + k * 5 + 2, none⟩) hbb).trans (eb 2 _ rfl)
      have b3 : wr.cell? ⟨bb, ob + k * 5 + 3, none⟩ = some (.int .i64 mode) := (be.cell (p := ⟨bb, ob + k * 5 + 3, none⟩) hbb).trans (eb 3 _ rfl)
      have b4 : wr.cell? ⟨bb, ob + k * 5 + 4, none⟩ = some (.slice A2 ln c2) := (be.cell (p := ⟨bb, ob + k * 5 + 4, none⟩) hbb).trans (eb 4 _ rfl)
      clear ea eb e1 e2 o1 o2 hba hbb hln be
      go_wp2
      go_quiet (fail)
      go_wp2
      go_roundw
      case rel => exact ⟨k + 1, by go_num, by omega, grown_trans' HG.out (drewN_grown wr nq)⟩
      case measure => simp [intOf]; omega
    · have hki : ¬ (k : Int) < (n : Int) := by omega
      go_wp2
      go_ret
      exact ⟨rfl, HG.out⟩

/-- Sorted keys of one map are the same keys. -/
theorem sorted_one : ∀ {a b : List (List UInt8)}, a.Perm b → SortedK a → SortedK b → a = b := by
  intro a b hp ha hb
  exact List.Perm.eq_of_pairwise (fun x y _ _ h1 h2 => List.le_antisymm h1 h2) ha hb hp
theorem listed_one {β : Type} {M : List (List UInt8 × β)} {a b : List (List UInt8)} (ha : ListedM M a) (hb : ListedM M b) : a = b := sorted_one (ha.1.trans hb.1.symm) ha.2 hb.2
/-- Two listings of one Tree, the first of which is still there, are alike. -/
theorem alike_of {w0 w1 w2 w3 : World} {b1 b2 : Nat} {M : List (List UInt8 × Nd)} {ks : List (List UInt8)} {xs ys : List (List Value)} (h1 : NodesAt w0 w1 b1 M ks ys) (h2 : NodesAt w2 w3 b2 M ks xs) (hg : Below w0.heap.size w0 w2) (hg2 : Below w1.heap.size w1 w3) : Alike2 w3 xs ys := by
  intro i c d hc hd
  have hi := (List.getElem?_eq_some_iff.1 hc).1
  rw [h2.1] at hi
  obtain ⟨n, l, dv, e1, e2, e3, rfl⟩ := h2.2 i _ c (List.getElem?_eq_getElem hi) hc
  obtain ⟨n', l', dv', f1, f2, f3, rfl⟩ := h1.2 i _ d (List.getElem?_eq_getElem hi) hd
  rw [e1] at f1
  injection f1 with f1
  subst f1
  have hl := (f2.below hg).uniq e2
  subst hl
  exact ⟨_, _, _, _, dv, dv', l', rfl, rfl, OwnB.base_ e3 (Nat.zero_le _), OwnB.base_ (f3.below hg2) (Nat.zero_le _)⟩
end Go.Proofs.YtmbmahpklkcioaaDoor
