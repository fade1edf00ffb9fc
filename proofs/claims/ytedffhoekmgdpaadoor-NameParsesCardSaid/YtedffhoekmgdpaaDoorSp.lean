/- The walk of the document's examples. -/
import Derived.Test.YtedffhoekmgdpaaDoorPs
namespace Go.Proofs.YtedffhoekmgdpaaDoor
open Go.RowKit

def sHost : ByteArray := ⟨#[104, 111, 115, 116]⟩
def sBlue : ByteArray := ⟨#[98, 108, 117, 101]⟩
def sLand : ByteArray := ⟨#[76, 65, 78, 68]⟩
def sEx : ByteArray := ⟨#[104, 111, 115, 116, 47, 98, 108, 117, 101, 64, 76, 65, 78, 68]⟩
def sEx2 : ByteArray := ⟨#[97, 64, 98, 64, 99]⟩
theorem ex_parses : parses sEx.data.toList = true := by decide +kernel
theorem ex_parts : partsOf sEx.data.toList = [sHost.data.toList, sBlue.data.toList] := by decide +kernel
theorem ex_realm : realmOf sEx.data.toList = sLand.data.toList := by decide +kernel
theorem ex2_parses : parses sEx2.data.toList = false := by decide +kernel
theorem ba_inj {a b : ByteArray} (h : a.data.toList = b.data.toList) : a = b := ByteArray.ext (Array.ext' h)
theorem dl_inj : ∀ {ls ms : List ByteArray}, dl ls = dl ms → ls = ms
  | [], [], _ => rfl
  | [], _ :: _, h => by simp [dl] at h
  | _ :: _, [], h => by simp [dl] at h
  | a :: ls, b :: ms, h => by
    simp only [dl, List.map_cons, List.cons.injEq] at h
    rw [ba_inj h.1, dl_inj (ls := ls) (ms := ms) h.2]
theorem cell_heap {w : World} {g : Nat} {cs : Array Value} {t : TypeId} (h : w.heap[g]? = some (.cells cs t (0, 0))) (k : Nat) : w.cell? ⟨g, k, none⟩ = cs[k]? := cell_of_row w g k cs t (0, 0) h
theorem errT (e : Int) : (e == e) = true := by simp

set_option maxHeartbeats 400000 in
theorem speaks_any (w : World) (hM : ML w) : Calls Tryd.prog 8 #[] w fun e w' => e = .returned (.bool true) ∧ Below w.heap.size w w' := by
  have HM := Lib.hid hM
  clear hM
  have tb : sBlue.toList = [98, 108, 117, 101] := by rw [ByteArray.toList_eq]; rfl
  have tl : sLand.toList = [76, 65, 78, 68] := by rw [ByteArray.toList_eq]; rfl
  go_enter Tryd.func8, Tryd.ntmps8
  go_wp2_with (first
    | (go_at_call 13; have hx := HB2; clear hx; refine (parse_any sEx2 _ rfl _ (HM.out.below HB2.out) (by decide)).mono ?_; intro e w3 hp; rw [Parsed, if_neg (by rw [ex2_parses]; simp)] at hp; obtain ⟨rfl, hb3⟩ := hp; have c1 := (hb3.cell (show (⟨w1.heap.size, 0, none⟩ : Addr).block < (w1.alloc (.cells #[.slice (some ⟨g, 0, none⟩) 2 2, .string sLand] 24)).heap.size by rw [World.size_alloc]; exact Nat.lt_succ_self _)).trans (cell_heap (heap_alloc_new w1 _) 0); have c2 := (hb3.cell (show (⟨w1.heap.size, 1, none⟩ : Addr).block < (w1.alloc (.cells #[.slice (some ⟨g, 0, none⟩) 2 2, .string sLand] 24)).heap.size by rw [World.size_alloc]; exact Nat.lt_succ_self _)).trans (cell_heap (heap_alloc_new w1 _) 1); have c3 := (cell_heap ((hb3.block g (by rw [World.size_alloc]; have := (Array.getElem?_eq_some_iff.1 HG.out).1; omega)).trans ((Below.heap_alloc w1 _ _ (Array.getElem?_eq_some_iff.1 HG.out).1).trans HG.out)) 1); have HB3 := Lib.hid (HB2.out.trans (hb3.mono HB2.out.size)); simp at c1 c2 c3; have d1 := fun o => cell_alloc c1 o; have d2 := fun o => cell_alloc c2 o; have d3 := fun o => cell_alloc c3 o; clear hb3 c1 c2 c3)
    | (go_at_call 13; refine (parse_any sEx _ rfl _ HM.out (by decide)).mono ?_; intro e w1 hp; rw [Parsed, if_pos ex_parses] at hp; obtain ⟨g, n, ls, r, rfl, hn, -, hd, hr, hg, -, hb1⟩ := hp; obtain rfl : ls = [sHost, sBlue] := dl_inj (hd.trans ex_parts); obtain rfl : r = sLand := ba_inj (hr.trans ex_realm); obtain rfl : n = 2 := hn.symm; have HG := Lib.hid hg; have HB2 := Lib.hid (show Below w.heap.size w (w1.alloc (.cells #[.slice (some ⟨g, 0, none⟩) 2 2, .string sLand] 24)) from hb1.alloc hb1.size _); clear hd hr hg hb1 hn))
  go_ret
  exact ⟨rfl, HB3.out.alloc HB3.out.size _⟩
end Go.Proofs.YtedffhoekmgdpaaDoor
