/- Path: is a text a path? The loop over the names that strings.SplitSeq gives. -/
import Derived.Test.YtmbmahpklkcioaaDoorTrc
namespace Go.Proofs.YtmbmahpklkcioaaDoor
open Go.RowKit Go.Shelf
attribute [local go_sem] Oper.semAt_some

def pathOk (l : List UInt8) : Bool := l == [47] || (l.head? == some 47 && decide (l.tail.count 47 < 6) && (pieces1 47 l.tail).all nameOk)
/-- What the calls of SplitSeq lay. -/
def capW (w : World) (s : ByteArray) : World := ((w.alloc (.cells #[.string s] 9)).alloc (.cells #[.string ⟨#[47]⟩] 9)).alloc (.cells #[.int .i64 0] 3)
theorem Cap.of_new (w : World) (s : ByteArray) : Cap (capW w s) (w.heap.size + 1) w.heap.size (w.heap.size + 2) s := by
  have h1 := World.alloc_heap_new w (.cells #[.string s] 9)
  have h2 := World.alloc_heap_new (w.alloc (.cells #[.string s] 9)) (.cells #[.string ⟨#[47]⟩] 9)
  have h3 := World.alloc_heap_new ((w.alloc (.cells #[.string s] 9)).alloc (.cells #[.string ⟨#[47]⟩] 9)) (.cells #[.int .i64 0] 3)
  rw [World.size_alloc] at h2
  rw [World.size_alloc, World.size_alloc] at h3
  exact ⟨(Below.heap_alloc _ _ _ (by rw [World.size_alloc, World.size_alloc]; omega)).trans h2,
    (Below.heap_alloc _ _ _ (by rw [World.size_alloc, World.size_alloc]; omega)).trans ((Below.heap_alloc _ _ _ (by rw [World.size_alloc]; omega)).trans h1), h3⟩
theorem splitSeq_any (w : World) (s : ByteArray) :
    Calls Tryd.prog 47 #[.string s, .string ⟨#[47]⟩, .int .i64 0] w fun e w' => e = .returned (.func (.func 57) #[] #[.pointer (some ⟨w.heap.size + 1, 0, none⟩), .pointer (some ⟨w.heap.size, 0, none⟩), .pointer (some ⟨w.heap.size + 2, 0, none⟩)]) ∧ w' = capW w s := by
  go_enter Tryd.func47, Tryd.ntmps47
  go_wp2
  go_ret
  exact ⟨rfl, rfl⟩
theorem SplitSeq_any (w : World) (s : ByteArray) :
    Calls Tryd.prog 34 #[.string s, .string ⟨#[47]⟩] w fun e w' => e = .returned (.func (.func 57) #[] #[.pointer (some ⟨w.heap.size + 1, 0, none⟩), .pointer (some ⟨w.heap.size, 0, none⟩), .pointer (some ⟨w.heap.size + 2, 0, none⟩)]) ∧ w' = capW w s := by
  go_enter Tryd.func34, Tryd.ntmps34
  go_wp2_with (go_at_call 47; refine (splitSeq_any _ _).mono ?_; rintro e w1 ⟨rfl, rfl⟩)
  go_ret
  exact ⟨rfl, rfl⟩

/-- The state of the loop: the answer's box is false; the record; nothing deferred. -/
structure St (B : Nat) (w0 : World) (R0 D l : Nat) (o : Loop) (W : World) : Prop where
  below : Below B w0 W
  res : W.heap[R0]? = some (.cells #[.bool false] 4 (0, 0))
  rc : W.heap[l]? = some (.loop o)
  df : W.heap[D]? = some (.deferred (some []))
theorem St.set {B R0 D l : Nat} {w0 W : World} {o : Loop} (h : St B w0 R0 D l o W) {b : Nat} (hb : B ≤ b) (h1 : R0 ≠ b) (h2 : D ≠ b) (h3 : l ≠ b) (u : Value) : St B w0 R0 D l o (W.setCell ⟨b, 0, none⟩ u) :=
  ⟨h.below.setCell (p := ⟨b, 0, none⟩) hb u, (Below.heap_setCell W ⟨b, 0, none⟩ _ R0 h1).trans h.res, (Below.heap_setCell W ⟨b, 0, none⟩ _ l h3).trans h.rc, (Below.heap_setCell W ⟨b, 0, none⟩ _ D h2).trans h.df⟩
theorem St.put {B R0 D l : Nat} {w0 W : World} {o : Loop} (h : St B w0 R0 D l o W) (hB : B ≤ l) (h1 : R0 ≠ l) (h2 : D ≠ l) (o' : Loop) : St B w0 R0 D l o' (W.putObj l (.loop o')) := by
  have hl := (Array.getElem?_eq_some_iff.1 h.rc).1
  exact ⟨h.below.grown (grownBy_putObj' W l _) (by have := h.below.size; omega) (fun k e => by cases e; exact hB), (World.putObj_heap_other h1).trans h.res, World.putObj_heap_same hl, (World.putObj_heap_other h2).trans h.df⟩
theorem Cap.put {W : World} {p b q : Nat} {s : ByteArray} (h : Cap W p b q s) {l : Nat} (h1 : p ≠ l) (h2 : b ≠ l) (h3 : q ≠ l) (o : Obj) : Cap (W.putObj l o) p b q s :=
  ⟨(World.putObj_heap_other h1).trans h.sep, (World.putObj_heap_other h2).trans h.left, (World.putObj_heap_other h3).trans h.save⟩
end Go.Proofs.YtmbmahpklkcioaaDoor
