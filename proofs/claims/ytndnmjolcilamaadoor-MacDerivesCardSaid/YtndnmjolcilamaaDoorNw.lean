/- The walk of New. -/
import Derived.Test.YtndnmjolcilamaaDoorSm
namespace Go.Proofs.YtndnmjolcilamaaDoor
open Go.RowKit

def initW : List UInt32 := [1779033703, 3144134277, 1013904242, 2773480762, 1359893119, 2600822924, 528734635, 1541459225]
def newH : HSt := ⟨initW, zeros 64, 0⟩
theorem newH_cells : (hcells newH.ws newH.bl newH.c).toArray = (hcells initW (zeros 64) 0).toArray := rfl

set_option maxRecDepth 10000 in
set_option maxHeartbeats 400000 in
theorem new_any (w : World) :
    Calls Tryd.prog 57 #[] w fun e w' => ∃ g, e = .returned (.pointer (some ⟨g, 0, none⟩)) ∧ g = w.heap.size ∧ CB w' g 109 (hcells newH.ws newH.bl newH.c) ∧ w.grownBy w' none := by
  go_enter Tryd.func57, Tryd.ntmps57
  have hz := zeroH w
  have hl : (hcells (wz 8) (zeros 64) 0).length = 73 := rfl
  obtain ⟨Z, hZ⟩ : ∃ Z, Z = hcells (wz 8) (zeros 64) 0 := ⟨_, rfl⟩
  rw [← hZ] at hz hl
  have HZ := Lib.hid hZ
  clear hZ
  go_wp2
  have hb : CB (w.alloc (.cells (hcells newH.ws newH.bl newH.c).toArray 109)) w.heap.size 109 (hcells newH.ws newH.bl newH.c) := CB.new _ _ _
  have hc : (hcells newH.ws newH.bl newH.c) = (((((((Z.set 0 (.int .u32 1779033703)).set 1 (.int .u32 3144134277)).set 2 (.int .u32 1013904242)).set 3 (.int .u32 2773480762)).set 4 (.int .u32 1359893119)).set 5 (.int .u32 2600822924)).set 6 (.int .u32 528734635)).set 7 (.int .u32 1541459225) := by rw [HZ.out]; rfl
  rw [hc] at hb
  go_ret
  exact ⟨w.heap.size, rfl, rfl, hc ▸ hb, grown_alloc _ _ _⟩
end Go.Proofs.YtndnmjolcilamaaDoor
